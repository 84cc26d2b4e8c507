/- RankRises: the last test of a round (k is m). -/
import Derived.Test.YtikhmlcmmabapaaG7c0679ab
namespace Go.Proofs.Ytikhmlcmmabapaa
open Go.RowKit
set_option linter.unusedVariables false
set_option linter.unusedSimpArgs false

def oRkRx_0 : Oper := { dst := some 202, op := .move (.tmp 21), type := 37, pos := "outright.go:72", after := #[], guard := none }
def oRkRx_1 : Oper := { dst := some 203, op := .fieldAddr 24 (.tmp 15) 2, type := 0, pos := "outright.go:72", after := #[], guard := none }
def oRkRx_2 : Oper := { dst := some 204, op := .load 22 (.tmp 203), type := 22, pos := "outright.go:72", after := #[⟨1, .data⟩], guard := none }
def oRkRx_3 : Oper := { dst := some 205, op := .move (.tmp 31), type := 3, pos := "outright.go:72", after := #[], guard := none }
def oRkRx_4 : Oper := { dst := some 206, op := .indexAddr 22 (.tmp 204) (.tmp 205), type := 0, pos := "outright.go:72", after := #[⟨2, .data⟩, ⟨3, .data⟩], guard := none }
def oRkRx_5 : Oper := { dst := some 207, op := .load 38 (.tmp 206), type := 38, pos := "outright.go:72", after := #[⟨4, .data⟩], guard := none }
def oRkRx_6 : Oper := { dst := some 208, op := .lookup 37 (.tmp 202) (.tmp 207) false, type := 3, pos := "outright.go:72", after := #[⟨0, .data⟩, ⟨5, .data⟩], guard := none }
def oRkRx_7 : Oper := { dst := some 209, op := .binOp .eql 3 (.tmp 208) (.const (.int .i64 0)) 3, type := 4, pos := "outright.go:72", after := #[⟨6, .data⟩], guard := none }
def oRkRx_8 : Oper := { dst := some 210, op := .move (.tmp 209), type := 4, pos := "outright.go:72", after := #[⟨7, .data⟩], guard := none }
def oRkRx_9 : Oper := { dst := some 211, op := .move (.tmp 5), type := 3, pos := "outright.go:72", after := #[⟨8, .guard⟩], guard := some (8, false) }
def oRkRx_10 : Oper := { dst := some 212, op := .move (.tmp 6), type := 3, pos := "outright.go:72", after := #[⟨8, .guard⟩], guard := some (8, false) }
def oRkRx_11 : Oper := { dst := some 213, op := .binOp .leq 3 (.tmp 211) (.tmp 212) 3, type := 4, pos := "outright.go:72", after := #[⟨9, .data⟩, ⟨10, .data⟩, ⟨8, .guard⟩], guard := some (8, false) }
def oRkRx_12 : Oper := { dst := some 214, op := .move (.tmp 213), type := 4, pos := "outright.go:72", after := #[⟨11, .data⟩, ⟨8, .chain⟩, ⟨8, .guard⟩], guard := some (8, false) }
def oRkRx_13 : Oper := { dst := some 215, op := .fieldAddr 24 (.tmp 15) 2, type := 0, pos := "outright.go:72", after := #[⟨12, .guard⟩], guard := some (12, true) }
def oRkRx_14 : Oper := { dst := some 216, op := .load 22 (.tmp 215), type := 22, pos := "outright.go:72", after := #[⟨13, .data⟩, ⟨12, .guard⟩], guard := some (12, true) }
def oRkRx_15 : Oper := { dst := some 217, op := .move (.tmp 31), type := 3, pos := "outright.go:72", after := #[⟨12, .guard⟩], guard := some (12, true) }
def oRkRx_16 : Oper := { dst := some 218, op := .indexAddr 22 (.tmp 216) (.tmp 217), type := 0, pos := "outright.go:72", after := #[⟨14, .data⟩, ⟨15, .data⟩, ⟨12, .guard⟩], guard := some (12, true) }
def oRkRx_17 : Oper := { dst := some 219, op := .load 38 (.tmp 218), type := 38, pos := "outright.go:72", after := #[⟨16, .data⟩, ⟨12, .guard⟩], guard := some (12, true) }
def oRkRx_18 : Oper := { dst := some 220, op := .call { callee := .value (.func 15), args := #[.tmp 219], argTypes := #[38] }, type := 38, pos := "outright.go:72", after := #[⟨17, .data⟩, ⟨12, .chain⟩, ⟨12, .guard⟩], guard := some (12, true) }
def oRkRx_19 : Oper := { dst := some 221, op := .fieldAddr 24 (.tmp 17) 2, type := 0, pos := "outright.go:72", after := #[⟨12, .guard⟩], guard := some (12, true) }
def oRkRx_20 : Oper := { dst := some 222, op := .load 22 (.tmp 221), type := 22, pos := "outright.go:72", after := #[⟨19, .data⟩, ⟨12, .guard⟩], guard := some (12, true) }
def oRkRx_21 : Oper := { dst := some 223, op := .move (.tmp 31), type := 3, pos := "outright.go:72", after := #[⟨12, .guard⟩], guard := some (12, true) }
def oRkRx_22 : Oper := { dst := some 224, op := .indexAddr 22 (.tmp 222) (.tmp 223), type := 0, pos := "outright.go:72", after := #[⟨20, .data⟩, ⟨21, .data⟩, ⟨12, .guard⟩], guard := some (12, true) }
def oRkRx_23 : Oper := { dst := some 225, op := .load 38 (.tmp 224), type := 38, pos := "outright.go:72", after := #[⟨22, .data⟩, ⟨12, .guard⟩], guard := some (12, true) }
def oRkRx_24 : Oper := { dst := some 226, op := .call { callee := .value (.func 15), args := #[.tmp 225], argTypes := #[38] }, type := 38, pos := "outright.go:72", after := #[⟨23, .data⟩, ⟨18, .chain⟩, ⟨12, .guard⟩], guard := some (12, true) }
def oRkRx_25 : Oper := { dst := some 227, op := .binOp .gtr 38 (.tmp 220) (.tmp 226) 38, type := 4, pos := "outright.go:72", after := #[⟨18, .data⟩, ⟨24, .data⟩, ⟨12, .guard⟩], guard := some (12, true) }
def oRkRx_26 : Oper := { dst := some 228, op := .pick (.tmp 214) (.tmp 227) (.const (.bool false)), type := 4, pos := "outright.go:72", after := #[⟨12, .data⟩, ⟨25, .data⟩, ⟨8, .guard⟩], guard := some (8, false) }
def oRkRx_27 : Oper := { dst := some 229, op := .pick (.tmp 210) (.const (.bool true)) (.tmp 228), type := 4, pos := "outright.go:72", after := #[⟨8, .data⟩, ⟨26, .data⟩], guard := none }
def oRkRx_28 : Oper := { dst := some 230, op := .move (.tmp 229), type := 4, pos := "outright.go:72", after := #[⟨27, .data⟩, ⟨24, .chain⟩], guard := none }
def oRkRx_29 : Oper := { dst := some 231, op := .move (.tmp 5), type := 3, pos := "outright.go:72", after := #[⟨28, .guard⟩], guard := some (28, false) }
def oRkRx_30 : Oper := { dst := some 232, op := .move (.tmp 6), type := 3, pos := "outright.go:72", after := #[⟨28, .guard⟩], guard := some (28, false) }
def oRkRx_31 : Oper := { dst := some 233, op := .binOp .geq 3 (.tmp 231) (.tmp 232) 3, type := 4, pos := "outright.go:72", after := #[⟨29, .data⟩, ⟨30, .data⟩, ⟨28, .guard⟩], guard := some (28, false) }
def oRkRx_32 : Oper := { dst := some 234, op := .move (.tmp 233), type := 4, pos := "outright.go:72", after := #[⟨31, .data⟩, ⟨28, .chain⟩, ⟨28, .guard⟩], guard := some (28, false) }
def oRkRx_33 : Oper := { dst := some 235, op := .fieldAddr 24 (.tmp 15) 2, type := 0, pos := "outright.go:72", after := #[⟨32, .guard⟩], guard := some (32, true) }
def oRkRx_34 : Oper := { dst := some 236, op := .load 22 (.tmp 235), type := 22, pos := "outright.go:72", after := #[⟨33, .data⟩, ⟨32, .guard⟩], guard := some (32, true) }
def oRkRx_35 : Oper := { dst := some 237, op := .move (.tmp 31), type := 3, pos := "outright.go:72", after := #[⟨32, .guard⟩], guard := some (32, true) }
def oRkRx_36 : Oper := { dst := some 238, op := .indexAddr 22 (.tmp 236) (.tmp 237), type := 0, pos := "outright.go:72", after := #[⟨34, .data⟩, ⟨35, .data⟩, ⟨32, .guard⟩], guard := some (32, true) }
def oRkRx_37 : Oper := { dst := some 239, op := .load 38 (.tmp 238), type := 38, pos := "outright.go:72", after := #[⟨36, .data⟩, ⟨32, .guard⟩], guard := some (32, true) }
def oRkRx_38 : Oper := { dst := some 240, op := .call { callee := .value (.func 15), args := #[.tmp 239], argTypes := #[38] }, type := 38, pos := "outright.go:72", after := #[⟨37, .data⟩, ⟨32, .chain⟩, ⟨32, .guard⟩], guard := some (32, true) }
def oRkRx_39 : Oper := { dst := some 241, op := .fieldAddr 24 (.tmp 17) 2, type := 0, pos := "outright.go:72", after := #[⟨32, .guard⟩], guard := some (32, true) }
def oRkRx_40 : Oper := { dst := some 242, op := .load 22 (.tmp 241), type := 22, pos := "outright.go:72", after := #[⟨39, .data⟩, ⟨32, .guard⟩], guard := some (32, true) }
def oRkRx_41 : Oper := { dst := some 243, op := .move (.tmp 31), type := 3, pos := "outright.go:72", after := #[⟨32, .guard⟩], guard := some (32, true) }
def oRkRx_42 : Oper := { dst := some 244, op := .indexAddr 22 (.tmp 242) (.tmp 243), type := 0, pos := "outright.go:72", after := #[⟨40, .data⟩, ⟨41, .data⟩, ⟨32, .guard⟩], guard := some (32, true) }
def oRkRx_43 : Oper := { dst := some 245, op := .load 38 (.tmp 244), type := 38, pos := "outright.go:72", after := #[⟨42, .data⟩, ⟨32, .guard⟩], guard := some (32, true) }
def oRkRx_44 : Oper := { dst := some 246, op := .call { callee := .value (.func 15), args := #[.tmp 245], argTypes := #[38] }, type := 38, pos := "outright.go:72", after := #[⟨43, .data⟩, ⟨38, .chain⟩, ⟨32, .guard⟩], guard := some (32, true) }
def oRkRx_45 : Oper := { dst := some 247, op := .binOp .lss 38 (.tmp 240) (.tmp 246) 38, type := 4, pos := "outright.go:72", after := #[⟨38, .data⟩, ⟨44, .data⟩, ⟨32, .guard⟩], guard := some (32, true) }
def oRkRx_46 : Oper := { dst := some 248, op := .pick (.tmp 234) (.tmp 247) (.const (.bool false)), type := 4, pos := "outright.go:72", after := #[⟨32, .data⟩, ⟨45, .data⟩, ⟨28, .guard⟩], guard := some (28, false) }
def oRkRx_47 : Oper := { dst := some 249, op := .pick (.tmp 230) (.const (.bool true)) (.tmp 248), type := 4, pos := "outright.go:72", after := #[⟨28, .data⟩, ⟨46, .data⟩], guard := none }
def oRkRx_48 : Oper := { dst := some 250, op := .move (.tmp 249), type := 4, pos := "outright.go:72", after := #[⟨47, .data⟩, ⟨44, .chain⟩], guard := none }
def oRkRx_49 : Oper := { dst := some 251, op := .fieldAddr 24 (.tmp 23) 2, type := 0, pos := "outright.go:72", after := #[⟨48, .guard⟩], guard := some (48, false) }
def oRkRx_50 : Oper := { dst := some 252, op := .load 22 (.tmp 251), type := 22, pos := "outright.go:72", after := #[⟨49, .data⟩, ⟨48, .guard⟩], guard := some (48, false) }
def oRkRx_51 : Oper := { dst := some 253, op := .move (.tmp 31), type := 3, pos := "outright.go:72", after := #[⟨48, .guard⟩], guard := some (48, false) }
def oRkRx_52 : Oper := { dst := some 254, op := .indexAddr 22 (.tmp 252) (.tmp 253), type := 0, pos := "outright.go:72", after := #[⟨50, .data⟩, ⟨51, .data⟩, ⟨48, .guard⟩], guard := some (48, false) }
def oRkRx_53 : Oper := { dst := some 255, op := .load 38 (.tmp 254), type := 38, pos := "outright.go:72", after := #[⟨52, .data⟩, ⟨48, .guard⟩], guard := some (48, false) }
def oRkRx_54 : Oper := { dst := some 256, op := .call { callee := .value (.func 15), args := #[.tmp 255], argTypes := #[38] }, type := 38, pos := "outright.go:72", after := #[⟨53, .data⟩, ⟨48, .chain⟩, ⟨48, .guard⟩], guard := some (48, false) }
def oRkRx_55 : Oper := { dst := some 257, op := .fieldAddr 24 (.tmp 25) 2, type := 0, pos := "outright.go:72", after := #[⟨48, .guard⟩], guard := some (48, false) }
def oRkRx_56 : Oper := { dst := some 258, op := .load 22 (.tmp 257), type := 22, pos := "outright.go:72", after := #[⟨55, .data⟩, ⟨48, .guard⟩], guard := some (48, false) }
def oRkRx_57 : Oper := { dst := some 259, op := .move (.tmp 31), type := 3, pos := "outright.go:72", after := #[⟨48, .guard⟩], guard := some (48, false) }
def oRkRx_58 : Oper := { dst := some 260, op := .indexAddr 22 (.tmp 258) (.tmp 259), type := 0, pos := "outright.go:72", after := #[⟨56, .data⟩, ⟨57, .data⟩, ⟨48, .guard⟩], guard := some (48, false) }
def oRkRx_59 : Oper := { dst := some 261, op := .load 38 (.tmp 260), type := 38, pos := "outright.go:72", after := #[⟨58, .data⟩, ⟨48, .guard⟩], guard := some (48, false) }
def oRkRx_60 : Oper := { dst := some 262, op := .call { callee := .value (.func 15), args := #[.tmp 261], argTypes := #[38] }, type := 38, pos := "outright.go:72", after := #[⟨59, .data⟩, ⟨54, .chain⟩, ⟨48, .guard⟩], guard := some (48, false) }
def oRkRx_61 : Oper := { dst := some 263, op := .binOp .gtr 38 (.tmp 256) (.tmp 262) 38, type := 4, pos := "outright.go:72", after := #[⟨54, .data⟩, ⟨60, .data⟩, ⟨48, .guard⟩], guard := some (48, false) }
def oRkRx_62 : Oper := { dst := some 264, op := .pick (.tmp 250) (.const (.bool true)) (.tmp 263), type := 4, pos := "outright.go:72", after := #[⟨48, .data⟩, ⟨61, .data⟩], guard := none }
def oRkRx_63 : Oper := { dst := some 265, op := .move (.tmp 264), type := 4, pos := "outright.go:72", after := #[⟨62, .data⟩, ⟨60, .chain⟩], guard := none }
def oRkRx_64 : Oper := { dst := some 266, op := .fieldAddr 24 (.tmp 27) 2, type := 0, pos := "outright.go:72", after := #[⟨63, .guard⟩], guard := some (63, false) }
def oRkRx_65 : Oper := { dst := some 267, op := .load 22 (.tmp 266), type := 22, pos := "outright.go:72", after := #[⟨64, .data⟩, ⟨63, .guard⟩], guard := some (63, false) }
def oRkRx_66 : Oper := { dst := some 268, op := .move (.tmp 31), type := 3, pos := "outright.go:72", after := #[⟨63, .guard⟩], guard := some (63, false) }
def oRkRx_67 : Oper := { dst := some 269, op := .indexAddr 22 (.tmp 267) (.tmp 268), type := 0, pos := "outright.go:72", after := #[⟨65, .data⟩, ⟨66, .data⟩, ⟨63, .guard⟩], guard := some (63, false) }
def oRkRx_68 : Oper := { dst := some 270, op := .load 38 (.tmp 269), type := 38, pos := "outright.go:72", after := #[⟨67, .data⟩, ⟨63, .guard⟩], guard := some (63, false) }
def oRkRx_69 : Oper := { dst := some 271, op := .call { callee := .value (.func 15), args := #[.tmp 270], argTypes := #[38] }, type := 38, pos := "outright.go:72", after := #[⟨68, .data⟩, ⟨63, .chain⟩, ⟨63, .guard⟩], guard := some (63, false) }
def oRkRx_70 : Oper := { dst := some 272, op := .fieldAddr 24 (.tmp 7) 2, type := 0, pos := "outright.go:72", after := #[⟨63, .guard⟩], guard := some (63, false) }
def oRkRx_71 : Oper := { dst := some 273, op := .load 22 (.tmp 272), type := 22, pos := "outright.go:72", after := #[⟨70, .data⟩, ⟨63, .guard⟩], guard := some (63, false) }
def oRkRx_72 : Oper := { dst := some 274, op := .move (.tmp 31), type := 3, pos := "outright.go:72", after := #[⟨63, .guard⟩], guard := some (63, false) }
def oRkRx_73 : Oper := { dst := some 275, op := .indexAddr 22 (.tmp 273) (.tmp 274), type := 0, pos := "outright.go:72", after := #[⟨71, .data⟩, ⟨72, .data⟩, ⟨63, .guard⟩], guard := some (63, false) }
def oRkRx_74 : Oper := { dst := some 276, op := .load 38 (.tmp 275), type := 38, pos := "outright.go:72", after := #[⟨73, .data⟩, ⟨63, .guard⟩], guard := some (63, false) }
def oRkRx_75 : Oper := { dst := some 277, op := .call { callee := .value (.func 15), args := #[.tmp 276], argTypes := #[38] }, type := 38, pos := "outright.go:72", after := #[⟨74, .data⟩, ⟨69, .chain⟩, ⟨63, .guard⟩], guard := some (63, false) }
def oRkRx_76 : Oper := { dst := some 278, op := .binOp .gtr 38 (.tmp 271) (.tmp 277) 38, type := 4, pos := "outright.go:72", after := #[⟨69, .data⟩, ⟨75, .data⟩, ⟨63, .guard⟩], guard := some (63, false) }
def oRkRx_77 : Oper := { dst := some 279, op := .pick (.tmp 265) (.const (.bool true)) (.tmp 278), type := 4, pos := "outright.go:72", after := #[⟨63, .data⟩, ⟨76, .data⟩], guard := none }
def oRkRx_78 : Oper := { dst := some 280, op := .move (.tmp 279), type := 4, pos := "outright.go:72", after := #[⟨77, .data⟩, ⟨75, .chain⟩], guard := none }
def oRkRx_79 : Oper := { dst := some 281, op := .fieldAddr 24 (.tmp 29) 2, type := 0, pos := "outright.go:72", after := #[⟨78, .guard⟩], guard := some (78, false) }
def oRkRx_80 : Oper := { dst := some 282, op := .load 22 (.tmp 281), type := 22, pos := "outright.go:72", after := #[⟨79, .data⟩, ⟨78, .guard⟩], guard := some (78, false) }
def oRkRx_81 : Oper := { dst := some 283, op := .move (.tmp 31), type := 3, pos := "outright.go:72", after := #[⟨78, .guard⟩], guard := some (78, false) }
def oRkRx_82 : Oper := { dst := some 284, op := .indexAddr 22 (.tmp 282) (.tmp 283), type := 0, pos := "outright.go:72", after := #[⟨80, .data⟩, ⟨81, .data⟩, ⟨78, .guard⟩], guard := some (78, false) }
def oRkRx_83 : Oper := { dst := some 285, op := .load 38 (.tmp 284), type := 38, pos := "outright.go:72", after := #[⟨82, .data⟩, ⟨78, .guard⟩], guard := some (78, false) }
def oRkRx_84 : Oper := { dst := some 286, op := .call { callee := .value (.func 15), args := #[.tmp 285], argTypes := #[38] }, type := 38, pos := "outright.go:72", after := #[⟨83, .data⟩, ⟨78, .chain⟩, ⟨78, .guard⟩], guard := some (78, false) }
def oRkRx_85 : Oper := { dst := some 287, op := .fieldAddr 24 (.tmp 7) 2, type := 0, pos := "outright.go:72", after := #[⟨78, .guard⟩], guard := some (78, false) }
def oRkRx_86 : Oper := { dst := some 288, op := .load 22 (.tmp 287), type := 22, pos := "outright.go:72", after := #[⟨85, .data⟩, ⟨78, .guard⟩], guard := some (78, false) }
def oRkRx_87 : Oper := { dst := some 289, op := .move (.tmp 31), type := 3, pos := "outright.go:72", after := #[⟨78, .guard⟩], guard := some (78, false) }
def oRkRx_88 : Oper := { dst := some 290, op := .indexAddr 22 (.tmp 288) (.tmp 289), type := 0, pos := "outright.go:72", after := #[⟨86, .data⟩, ⟨87, .data⟩, ⟨78, .guard⟩], guard := some (78, false) }
def oRkRx_89 : Oper := { dst := some 291, op := .load 38 (.tmp 290), type := 38, pos := "outright.go:72", after := #[⟨88, .data⟩, ⟨78, .guard⟩], guard := some (78, false) }
def oRkRx_90 : Oper := { dst := some 292, op := .call { callee := .value (.func 15), args := #[.tmp 291], argTypes := #[38] }, type := 38, pos := "outright.go:72", after := #[⟨89, .data⟩, ⟨84, .chain⟩, ⟨78, .guard⟩], guard := some (78, false) }
def oRkRx_91 : Oper := { dst := some 293, op := .binOp .lss 38 (.tmp 286) (.tmp 292) 38, type := 4, pos := "outright.go:72", after := #[⟨84, .data⟩, ⟨90, .data⟩, ⟨78, .guard⟩], guard := some (78, false) }
def oRkRx_92 : Oper := { dst := some 294, op := .pick (.tmp 280) (.const (.bool true)) (.tmp 293), type := 4, pos := "outright.go:72", after := #[⟨78, .data⟩, ⟨91, .data⟩], guard := none }
def opsRkRx : List Oper := [oRkRx_0, oRkRx_1, oRkRx_2, oRkRx_3, oRkRx_4, oRkRx_5, oRkRx_6, oRkRx_7, oRkRx_8, oRkRx_9, oRkRx_10, oRkRx_11, oRkRx_12, oRkRx_13, oRkRx_14, oRkRx_15, oRkRx_16, oRkRx_17, oRkRx_18, oRkRx_19, oRkRx_20, oRkRx_21, oRkRx_22, oRkRx_23, oRkRx_24, oRkRx_25, oRkRx_26, oRkRx_27, oRkRx_28, oRkRx_29, oRkRx_30, oRkRx_31, oRkRx_32, oRkRx_33, oRkRx_34, oRkRx_35, oRkRx_36, oRkRx_37, oRkRx_38, oRkRx_39, oRkRx_40, oRkRx_41, oRkRx_42, oRkRx_43, oRkRx_44, oRkRx_45, oRkRx_46, oRkRx_47, oRkRx_48, oRkRx_49, oRkRx_50, oRkRx_51, oRkRx_52, oRkRx_53, oRkRx_54, oRkRx_55, oRkRx_56, oRkRx_57, oRkRx_58, oRkRx_59, oRkRx_60, oRkRx_61, oRkRx_62, oRkRx_63, oRkRx_64, oRkRx_65, oRkRx_66, oRkRx_67, oRkRx_68, oRkRx_69, oRkRx_70, oRkRx_71, oRkRx_72, oRkRx_73, oRkRx_74, oRkRx_75, oRkRx_76, oRkRx_77, oRkRx_78, oRkRx_79, oRkRx_80, oRkRx_81, oRkRx_82, oRkRx_83, oRkRx_84, oRkRx_85, oRkRx_86, oRkRx_87, oRkRx_88, oRkRx_89, oRkRx_90, oRkRx_91, oRkRx_92]
def sRkRx : List Nat := [202, 203, 204, 205, 206, 207, 208, 209, 210, 211, 212, 213, 214, 215, 216, 217, 218, 219, 220, 221, 222, 223, 224, 225, 226, 227, 228, 229, 230, 231, 232, 233, 234, 235, 236, 237, 238, 239, 240, 241, 242, 243, 244, 245, 246, 247, 248, 249, 250, 251, 252, 253, 254, 255, 256, 257, 258, 259, 260, 261, 262, 263, 264, 265, 266, 267, 268, 269, 270, 271, 272, 273, 274, 275, 276, 277, 278, 279, 280, 281, 282, 283, 284, 285, 286, 287, 288, 289, 290, 291, 292, 293, 294]
def spRkRx (Va Vb Vc Vd Vu Vv Vp ga gb gc gd gu gv gs os n c bm ii kk mm sa sb sc sd su sv s0 : Nat) : List Spec := [spV (.map (some bm)), spV (.pointer (some ⟨Va, 2, none⟩)), spV (.slice (some ⟨ga, 0, none⟩) n n), spV (.int .i64 (ii : Int)), spV (.pointer (some ⟨ga, ii, none⟩)), spV (.int .u32 (sa : Int)), spV (.int .i64 1), spV (.bool false), spV (.bool false), spV (.int .i64 (kk : Int)), spV (.int .i64 (mm : Int)), spV (.bool true), spV (.bool true), spV (.pointer (some ⟨Va, 2, none⟩)), spV (.slice (some ⟨ga, 0, none⟩) n n), spV (.int .i64 (ii : Int)), spV (.pointer (some ⟨ga, ii, none⟩)), spV (.int .u32 (sa : Int)), spV (.int .u32 ((keyN sa : Nat) : Int)), spV (.pointer (some ⟨Vb, 2, none⟩)), spV (.slice (some ⟨gb, 0, none⟩) n n), spV (.int .i64 (ii : Int)), spV (.pointer (some ⟨gb, ii, none⟩)), spV (.int .u32 (sb : Int)), spV (.int .u32 ((keyN sb : Nat) : Int)), spV (.bool false), spV (.bool false), spV (.bool false), spV (.bool false), spV (.int .i64 (kk : Int)), spV (.int .i64 (mm : Int)), spV (.bool true), spV (.bool true), spV (.pointer (some ⟨Va, 2, none⟩)), spV (.slice (some ⟨ga, 0, none⟩) n n), spV (.int .i64 (ii : Int)), spV (.pointer (some ⟨ga, ii, none⟩)), spV (.int .u32 (sa : Int)), spV (.int .u32 ((keyN sa : Nat) : Int)), spV (.pointer (some ⟨Vb, 2, none⟩)), spV (.slice (some ⟨gb, 0, none⟩) n n), spV (.int .i64 (ii : Int)), spV (.pointer (some ⟨gb, ii, none⟩)), spV (.int .u32 (sb : Int)), spV (.int .u32 ((keyN sb : Nat) : Int)), spV (.bool false), spV (.bool false), spV (.bool false), spV (.bool false), spV (.pointer (some ⟨Vc, 2, none⟩)), spV (.slice (some ⟨gc, 0, none⟩) n n), spV (.int .i64 (ii : Int)), spV (.pointer (some ⟨gc, ii, none⟩)), spV (.int .u32 (sc : Int)), spV (.int .u32 ((keyN sc : Nat) : Int)), spV (.pointer (some ⟨Vd, 2, none⟩)), spV (.slice (some ⟨gd, 0, none⟩) n n), spV (.int .i64 (ii : Int)), spV (.pointer (some ⟨gd, ii, none⟩)), spV (.int .u32 (sd : Int)), spV (.int .u32 ((keyN sd : Nat) : Int)), spV (.bool false), spV (.bool false), spV (.bool false), spV (.pointer (some ⟨Vu, 2, none⟩)), spV (.slice (some ⟨gu, 0, none⟩) n n), spV (.int .i64 (ii : Int)), spV (.pointer (some ⟨gu, ii, none⟩)), spV (.int .u32 (su : Int)), spV (.int .u32 ((keyN su : Nat) : Int)), spV (.pointer (some ⟨Vp, 2, none⟩)), spV (.slice (some ⟨gs, os, none⟩) n c), spV (.int .i64 (ii : Int)), spV (.pointer (some ⟨gs, os + ii, none⟩)), spV (.int .u32 (s0 : Int)), spV (.int .u32 ((keyN s0 : Nat) : Int)), spV (.bool false), spV (.bool false), spV (.bool false), spV (.pointer (some ⟨Vv, 2, none⟩)), spV (.slice (some ⟨gv, 0, none⟩) n n), spV (.int .i64 (ii : Int)), spV (.pointer (some ⟨gv, ii, none⟩)), spV (.int .u32 (sv : Int)), spV (.int .u32 ((keyN sv : Nat) : Int)), spV (.pointer (some ⟨Vp, 2, none⟩)), spV (.slice (some ⟨gs, os, none⟩) n c), spV (.int .i64 (ii : Int)), spV (.pointer (some ⟨gs, os + ii, none⟩)), spV (.int .u32 (s0 : Int)), spV (.int .u32 ((keyN s0 : Nat) : Int)), spV (.bool false), spV (.bool false)]
structure EnvRkRx (a0 : Act) (w : World) (Va Vb Vc Vd Vu Vv Vp ga gb gc gd gu gv gs os n c bm ii kk mm sa sb sc sd su sv s0 : Nat) : Prop where
  h15 : a0.tmps[15]? = some (ptrV Va)
  h17 : a0.tmps[17]? = some (ptrV Vb)
  h23 : a0.tmps[23]? = some (ptrV Vc)
  h25 : a0.tmps[25]? = some (ptrV Vd)
  h27 : a0.tmps[27]? = some (ptrV Vu)
  h29 : a0.tmps[29]? = some (ptrV Vv)
  h7 : a0.tmps[7]? = some (ptrV Vp)
  h21 : a0.tmps[21]? = some (.map (some bm))
  h31 : a0.tmps[31]? = some (.int .i64 (ii : Int))
  h5 : a0.tmps[5]? = some (.int .i64 (kk : Int))
  h6 : a0.tmps[6]? = some (.int .i64 (mm : Int))
  ca : w.cell? ⟨Va, 2, none⟩ = some (.slice (some ⟨ga, 0, none⟩) n n)
  cb : w.cell? ⟨Vb, 2, none⟩ = some (.slice (some ⟨gb, 0, none⟩) n n)
  cc : w.cell? ⟨Vc, 2, none⟩ = some (.slice (some ⟨gc, 0, none⟩) n n)
  cd : w.cell? ⟨Vd, 2, none⟩ = some (.slice (some ⟨gd, 0, none⟩) n n)
  cu : w.cell? ⟨Vu, 2, none⟩ = some (.slice (some ⟨gu, 0, none⟩) n n)
  cv : w.cell? ⟨Vv, 2, none⟩ = some (.slice (some ⟨gv, 0, none⟩) n n)
  cp : w.cell? ⟨Vp, 2, none⟩ = some (.slice (some ⟨gs, os, none⟩) n c)
  ka : w.cell? ⟨ga, ii, none⟩ = some (.int .u32 (sa : Int))
  kb : w.cell? ⟨gb, ii, none⟩ = some (.int .u32 (sb : Int))
  kc : w.cell? ⟨gc, ii, none⟩ = some (.int .u32 (sc : Int))
  kd : w.cell? ⟨gd, ii, none⟩ = some (.int .u32 (sd : Int))
  ku : w.cell? ⟨gu, ii, none⟩ = some (.int .u32 (su : Int))
  kv : w.cell? ⟨gv, ii, none⟩ = some (.int .u32 (sv : Int))
  kp : w.cell? ⟨gs, os + ii, none⟩ = some (.int .u32 (s0 : Int))
  ba : sa < 4294967296
  bb : sb < 4294967296
  bc : sc < 4294967296
  bd : sd < 4294967296
  bu : su < 4294967296
  bv : sv < 4294967296
  bp : s0 < 4294967296
  hi : ii < n
  lk : ∀ x, Q w x → (Instr.lookup 37 (.map (some bm)) (.int .u32 (sa : Int)) false).run Try.prog x = .ok (.int .i64 1) x
  le : kk ≤ mm
  ge : mm ≤ kk
  qab : keyN sa = keyN sb
  qcd : keyN sc ≤ keyN sd
  qup : keyN su ≤ keyN s0
  qvp : keyN s0 ≤ keyN sv
def skRkRx (i : Nat) : Bool := [].contains i
theorem yRkRx_0 {a0 : Act} {w : World} {Va Vb Vc Vd Vu Vv Vp ga gb gc gd gu gv gs os n c bm ii kk mm sa sb sc sd su sv s0 : Nat} (E : EnvRkRx a0 w Va Vb Vc Vd Vu Vv Vp ga gb gc gd gu gv gs os n c bm ii kk mm sa sb sc sd su sv s0) {R : Exit → Act → World → Prop} {a : Act} {x : World} (q : Q w x) (oth : ∀ j, j ∉ sRkRx → a.tmps[j]? = a0.tmps[j]?) (dep : ∀ ed ∈ oRkRx_0.after, Region.binds .any ed = true → ∀ t', sRkRx[ed.on]? = some t' → ∃ v, a.tmps[t']? = some v ∧ specAt (spRkRx Va Vb Vc Vd Vu Vv Vp ga gb gc gd gu gv gs os n c bm ii kk mm sa sb sc sd su sv s0) ed.on v x) : Yld Try.prog R oRkRx_0 a x 202 (specAt (spRkRx Va Vb Vc Vd Vu Vv Vp ga gb gc gd gu gv gs os n c bm ii kk mm sa sb sc sd su sv s0) 0) := by
  exact yld_move ((oth 21 (by decide)).trans E.h21) rfl
theorem yRkRx_1 {a0 : Act} {w : World} {Va Vb Vc Vd Vu Vv Vp ga gb gc gd gu gv gs os n c bm ii kk mm sa sb sc sd su sv s0 : Nat} (E : EnvRkRx a0 w Va Vb Vc Vd Vu Vv Vp ga gb gc gd gu gv gs os n c bm ii kk mm sa sb sc sd su sv s0) {R : Exit → Act → World → Prop} {a : Act} {x : World} (q : Q w x) (oth : ∀ j, j ∉ sRkRx → a.tmps[j]? = a0.tmps[j]?) (dep : ∀ ed ∈ oRkRx_1.after, Region.binds .any ed = true → ∀ t', sRkRx[ed.on]? = some t' → ∃ v, a.tmps[t']? = some v ∧ specAt (spRkRx Va Vb Vc Vd Vu Vv Vp ga gb gc gd gu gv gs os n c bm ii kk mm sa sb sc sd su sv s0) ed.on v x) : Yld Try.prog R oRkRx_1 a x 203 (specAt (spRkRx Va Vb Vc Vd Vu Vv Vp ga gb gc gd gu gv gs os n c bm ii kk mm sa sb sc sd su sv s0) 1) := by
  have hs := (oth 15 (by decide)).trans E.h15
  exact yld_run (x' := x) rfl (by simp [oRkRx_1, execOp, go_sem, hs, ptrV]) (Q.refl x) rfl
theorem yRkRx_2 {a0 : Act} {w : World} {Va Vb Vc Vd Vu Vv Vp ga gb gc gd gu gv gs os n c bm ii kk mm sa sb sc sd su sv s0 : Nat} (E : EnvRkRx a0 w Va Vb Vc Vd Vu Vv Vp ga gb gc gd gu gv gs os n c bm ii kk mm sa sb sc sd su sv s0) {R : Exit → Act → World → Prop} {a : Act} {x : World} (q : Q w x) (oth : ∀ j, j ∉ sRkRx → a.tmps[j]? = a0.tmps[j]?) (dep : ∀ ed ∈ oRkRx_2.after, Region.binds .any ed = true → ∀ t', sRkRx[ed.on]? = some t' → ∃ v, a.tmps[t']? = some v ∧ specAt (spRkRx Va Vb Vc Vd Vu Vv Vp ga gb gc gd gu gv gs os n c bm ii kk mm sa sb sc sd su sv s0) ed.on v x) : Yld Try.prog R oRkRx_2 a x 204 (specAt (spRkRx Va Vb Vc Vd Vu Vv Vp ga gb gc gd gu gv gs os n c bm ii kk mm sa sb sc sd su sv s0) 2) := by
  obtain ⟨v1, t1, f1⟩ := dep ⟨1, .data⟩ (by simp [oRkRx_2]) rfl 203 rfl
  have f1 : v1 = (.pointer (some ⟨Va, 2, none⟩)) := f1
  subst f1
  have h1 := tmp_eval t1
  have hc := q.cell E.ca
  exact yld_run (x' := x) rfl (by simp [oRkRx_2, execOp, go_sem, t1, hc]) (Q.refl x) rfl
theorem yRkRx_3 {a0 : Act} {w : World} {Va Vb Vc Vd Vu Vv Vp ga gb gc gd gu gv gs os n c bm ii kk mm sa sb sc sd su sv s0 : Nat} (E : EnvRkRx a0 w Va Vb Vc Vd Vu Vv Vp ga gb gc gd gu gv gs os n c bm ii kk mm sa sb sc sd su sv s0) {R : Exit → Act → World → Prop} {a : Act} {x : World} (q : Q w x) (oth : ∀ j, j ∉ sRkRx → a.tmps[j]? = a0.tmps[j]?) (dep : ∀ ed ∈ oRkRx_3.after, Region.binds .any ed = true → ∀ t', sRkRx[ed.on]? = some t' → ∃ v, a.tmps[t']? = some v ∧ specAt (spRkRx Va Vb Vc Vd Vu Vv Vp ga gb gc gd gu gv gs os n c bm ii kk mm sa sb sc sd su sv s0) ed.on v x) : Yld Try.prog R oRkRx_3 a x 205 (specAt (spRkRx Va Vb Vc Vd Vu Vv Vp ga gb gc gd gu gv gs os n c bm ii kk mm sa sb sc sd su sv s0) 3) := by
  exact yld_move ((oth 31 (by decide)).trans E.h31) rfl
theorem yRkRx_4 {a0 : Act} {w : World} {Va Vb Vc Vd Vu Vv Vp ga gb gc gd gu gv gs os n c bm ii kk mm sa sb sc sd su sv s0 : Nat} (E : EnvRkRx a0 w Va Vb Vc Vd Vu Vv Vp ga gb gc gd gu gv gs os n c bm ii kk mm sa sb sc sd su sv s0) {R : Exit → Act → World → Prop} {a : Act} {x : World} (q : Q w x) (oth : ∀ j, j ∉ sRkRx → a.tmps[j]? = a0.tmps[j]?) (dep : ∀ ed ∈ oRkRx_4.after, Region.binds .any ed = true → ∀ t', sRkRx[ed.on]? = some t' → ∃ v, a.tmps[t']? = some v ∧ specAt (spRkRx Va Vb Vc Vd Vu Vv Vp ga gb gc gd gu gv gs os n c bm ii kk mm sa sb sc sd su sv s0) ed.on v x) : Yld Try.prog R oRkRx_4 a x 206 (specAt (spRkRx Va Vb Vc Vd Vu Vv Vp ga gb gc gd gu gv gs os n c bm ii kk mm sa sb sc sd su sv s0) 4) := by
  obtain ⟨v2, t2, f2⟩ := dep ⟨2, .data⟩ (by simp [oRkRx_4]) rfl 204 rfl
  have f2 : v2 = (.slice (some ⟨ga, 0, none⟩) n n) := f2
  subst f2
  obtain ⟨v3, t3, f3⟩ := dep ⟨3, .data⟩ (by simp [oRkRx_4]) rfl 205 rfl
  have f3 : v3 = (.int .i64 (ii : Int)) := f3
  subst f3
  exact yld_run (x' := x) rfl (run_ixr (Lw := n) (cap := n) (tmp_eval t2) (tmp_eval t3) E.hi) (Q.refl x) rfl
theorem yRkRx_5 {a0 : Act} {w : World} {Va Vb Vc Vd Vu Vv Vp ga gb gc gd gu gv gs os n c bm ii kk mm sa sb sc sd su sv s0 : Nat} (E : EnvRkRx a0 w Va Vb Vc Vd Vu Vv Vp ga gb gc gd gu gv gs os n c bm ii kk mm sa sb sc sd su sv s0) {R : Exit → Act → World → Prop} {a : Act} {x : World} (q : Q w x) (oth : ∀ j, j ∉ sRkRx → a.tmps[j]? = a0.tmps[j]?) (dep : ∀ ed ∈ oRkRx_5.after, Region.binds .any ed = true → ∀ t', sRkRx[ed.on]? = some t' → ∃ v, a.tmps[t']? = some v ∧ specAt (spRkRx Va Vb Vc Vd Vu Vv Vp ga gb gc gd gu gv gs os n c bm ii kk mm sa sb sc sd su sv s0) ed.on v x) : Yld Try.prog R oRkRx_5 a x 207 (specAt (spRkRx Va Vb Vc Vd Vu Vv Vp ga gb gc gd gu gv gs os n c bm ii kk mm sa sb sc sd su sv s0) 5) := by
  obtain ⟨v4, t4, f4⟩ := dep ⟨4, .data⟩ (by simp [oRkRx_5]) rfl 206 rfl
  have f4 : v4 = (.pointer (some ⟨ga, ii, none⟩)) := f4
  subst f4
  have h4 := tmp_eval t4
  have hc := q.cell E.ka
  exact yld_run (x' := x) rfl (by simp [oRkRx_5, execOp, go_sem, t4, hc]) (Q.refl x) rfl
theorem yRkRx_6 {a0 : Act} {w : World} {Va Vb Vc Vd Vu Vv Vp ga gb gc gd gu gv gs os n c bm ii kk mm sa sb sc sd su sv s0 : Nat} (E : EnvRkRx a0 w Va Vb Vc Vd Vu Vv Vp ga gb gc gd gu gv gs os n c bm ii kk mm sa sb sc sd su sv s0) {R : Exit → Act → World → Prop} {a : Act} {x : World} (q : Q w x) (oth : ∀ j, j ∉ sRkRx → a.tmps[j]? = a0.tmps[j]?) (dep : ∀ ed ∈ oRkRx_6.after, Region.binds .any ed = true → ∀ t', sRkRx[ed.on]? = some t' → ∃ v, a.tmps[t']? = some v ∧ specAt (spRkRx Va Vb Vc Vd Vu Vv Vp ga gb gc gd gu gv gs os n c bm ii kk mm sa sb sc sd su sv s0) ed.on v x) : Yld Try.prog R oRkRx_6 a x 208 (specAt (spRkRx Va Vb Vc Vd Vu Vv Vp ga gb gc gd gu gv gs os n c bm ii kk mm sa sb sc sd su sv s0) 6) := by
  obtain ⟨v0, t0, f0⟩ := dep ⟨0, .data⟩ (by simp [oRkRx_6]) rfl 202 rfl
  have f0 : v0 = (.map (some bm)) := f0
  subst f0
  obtain ⟨v5, t5, f5⟩ := dep ⟨5, .data⟩ (by simp [oRkRx_6]) rfl 207 rfl
  have f5 : v5 = (.int .u32 (sa : Int)) := f5
  subst f5
  have h0 := tmp_eval t0
  have h5 := tmp_eval t5
  have hl := E.lk x q
  exact yld_run (x' := x) rfl (by simp [oRkRx_6, execOp, h0, h5, hl, Result.andThen]) (Q.refl x) rfl
theorem yRkRx_7 {a0 : Act} {w : World} {Va Vb Vc Vd Vu Vv Vp ga gb gc gd gu gv gs os n c bm ii kk mm sa sb sc sd su sv s0 : Nat} (E : EnvRkRx a0 w Va Vb Vc Vd Vu Vv Vp ga gb gc gd gu gv gs os n c bm ii kk mm sa sb sc sd su sv s0) {R : Exit → Act → World → Prop} {a : Act} {x : World} (q : Q w x) (oth : ∀ j, j ∉ sRkRx → a.tmps[j]? = a0.tmps[j]?) (dep : ∀ ed ∈ oRkRx_7.after, Region.binds .any ed = true → ∀ t', sRkRx[ed.on]? = some t' → ∃ v, a.tmps[t']? = some v ∧ specAt (spRkRx Va Vb Vc Vd Vu Vv Vp ga gb gc gd gu gv gs os n c bm ii kk mm sa sb sc sd su sv s0) ed.on v x) : Yld Try.prog R oRkRx_7 a x 209 (specAt (spRkRx Va Vb Vc Vd Vu Vv Vp ga gb gc gd gu gv gs os n c bm ii kk mm sa sb sc sd su sv s0) 7) := by
  obtain ⟨v6, t6, f6⟩ := dep ⟨6, .data⟩ (by simp [oRkRx_7]) rfl 208 rfl
  have f6 : v6 = (.int .i64 1) := f6
  subst f6
  have h6 := tmp_eval t6
  exact yld_run (x' := x) rfl (by simp [oRkRx_7, execOp, go_sem, t6]) (Q.refl x) rfl
theorem yRkRx_8 {a0 : Act} {w : World} {Va Vb Vc Vd Vu Vv Vp ga gb gc gd gu gv gs os n c bm ii kk mm sa sb sc sd su sv s0 : Nat} (E : EnvRkRx a0 w Va Vb Vc Vd Vu Vv Vp ga gb gc gd gu gv gs os n c bm ii kk mm sa sb sc sd su sv s0) {R : Exit → Act → World → Prop} {a : Act} {x : World} (q : Q w x) (oth : ∀ j, j ∉ sRkRx → a.tmps[j]? = a0.tmps[j]?) (dep : ∀ ed ∈ oRkRx_8.after, Region.binds .any ed = true → ∀ t', sRkRx[ed.on]? = some t' → ∃ v, a.tmps[t']? = some v ∧ specAt (spRkRx Va Vb Vc Vd Vu Vv Vp ga gb gc gd gu gv gs os n c bm ii kk mm sa sb sc sd su sv s0) ed.on v x) : Yld Try.prog R oRkRx_8 a x 210 (specAt (spRkRx Va Vb Vc Vd Vu Vv Vp ga gb gc gd gu gv gs os n c bm ii kk mm sa sb sc sd su sv s0) 8) := by
  obtain ⟨v7, t7, f7⟩ := dep ⟨7, .data⟩ (by simp [oRkRx_8]) rfl 209 rfl
  have f7 : v7 = (.bool false) := f7
  subst f7
  exact yld_move t7 rfl
theorem yRkRx_9 {a0 : Act} {w : World} {Va Vb Vc Vd Vu Vv Vp ga gb gc gd gu gv gs os n c bm ii kk mm sa sb sc sd su sv s0 : Nat} (E : EnvRkRx a0 w Va Vb Vc Vd Vu Vv Vp ga gb gc gd gu gv gs os n c bm ii kk mm sa sb sc sd su sv s0) {R : Exit → Act → World → Prop} {a : Act} {x : World} (q : Q w x) (oth : ∀ j, j ∉ sRkRx → a.tmps[j]? = a0.tmps[j]?) (dep : ∀ ed ∈ oRkRx_9.after, Region.binds .any ed = true → ∀ t', sRkRx[ed.on]? = some t' → ∃ v, a.tmps[t']? = some v ∧ specAt (spRkRx Va Vb Vc Vd Vu Vv Vp ga gb gc gd gu gv gs os n c bm ii kk mm sa sb sc sd su sv s0) ed.on v x) : Yld Try.prog R oRkRx_9 a x 211 (specAt (spRkRx Va Vb Vc Vd Vu Vv Vp ga gb gc gd gu gv gs os n c bm ii kk mm sa sb sc sd su sv s0) 9) := by
  exact yld_move ((oth 5 (by decide)).trans E.h5) rfl
theorem yRkRx_10 {a0 : Act} {w : World} {Va Vb Vc Vd Vu Vv Vp ga gb gc gd gu gv gs os n c bm ii kk mm sa sb sc sd su sv s0 : Nat} (E : EnvRkRx a0 w Va Vb Vc Vd Vu Vv Vp ga gb gc gd gu gv gs os n c bm ii kk mm sa sb sc sd su sv s0) {R : Exit → Act → World → Prop} {a : Act} {x : World} (q : Q w x) (oth : ∀ j, j ∉ sRkRx → a.tmps[j]? = a0.tmps[j]?) (dep : ∀ ed ∈ oRkRx_10.after, Region.binds .any ed = true → ∀ t', sRkRx[ed.on]? = some t' → ∃ v, a.tmps[t']? = some v ∧ specAt (spRkRx Va Vb Vc Vd Vu Vv Vp ga gb gc gd gu gv gs os n c bm ii kk mm sa sb sc sd su sv s0) ed.on v x) : Yld Try.prog R oRkRx_10 a x 212 (specAt (spRkRx Va Vb Vc Vd Vu Vv Vp ga gb gc gd gu gv gs os n c bm ii kk mm sa sb sc sd su sv s0) 10) := by
  exact yld_move ((oth 6 (by decide)).trans E.h6) rfl
theorem yRkRx_11 {a0 : Act} {w : World} {Va Vb Vc Vd Vu Vv Vp ga gb gc gd gu gv gs os n c bm ii kk mm sa sb sc sd su sv s0 : Nat} (E : EnvRkRx a0 w Va Vb Vc Vd Vu Vv Vp ga gb gc gd gu gv gs os n c bm ii kk mm sa sb sc sd su sv s0) {R : Exit → Act → World → Prop} {a : Act} {x : World} (q : Q w x) (oth : ∀ j, j ∉ sRkRx → a.tmps[j]? = a0.tmps[j]?) (dep : ∀ ed ∈ oRkRx_11.after, Region.binds .any ed = true → ∀ t', sRkRx[ed.on]? = some t' → ∃ v, a.tmps[t']? = some v ∧ specAt (spRkRx Va Vb Vc Vd Vu Vv Vp ga gb gc gd gu gv gs os n c bm ii kk mm sa sb sc sd su sv s0) ed.on v x) : Yld Try.prog R oRkRx_11 a x 213 (specAt (spRkRx Va Vb Vc Vd Vu Vv Vp ga gb gc gd gu gv gs os n c bm ii kk mm sa sb sc sd su sv s0) 11) := by
  obtain ⟨v9, t9, f9⟩ := dep ⟨9, .data⟩ (by simp [oRkRx_11]) rfl 211 rfl
  have f9 : v9 = (.int .i64 (kk : Int)) := f9
  subst f9
  obtain ⟨v10, t10, f10⟩ := dep ⟨10, .data⟩ (by simp [oRkRx_11]) rfl 212 rfl
  have f10 : v10 = (.int .i64 (mm : Int)) := f10
  subst f10
  have h9 := tmp_eval t9
  have h10 := tmp_eval t10
  have hf := E.le
  exact yld_run (x' := x) rfl (by simp [oRkRx_11, execOp, go_sem, t9, t10, hf]) (Q.refl x) rfl
theorem yRkRx_12 {a0 : Act} {w : World} {Va Vb Vc Vd Vu Vv Vp ga gb gc gd gu gv gs os n c bm ii kk mm sa sb sc sd su sv s0 : Nat} (E : EnvRkRx a0 w Va Vb Vc Vd Vu Vv Vp ga gb gc gd gu gv gs os n c bm ii kk mm sa sb sc sd su sv s0) {R : Exit → Act → World → Prop} {a : Act} {x : World} (q : Q w x) (oth : ∀ j, j ∉ sRkRx → a.tmps[j]? = a0.tmps[j]?) (dep : ∀ ed ∈ oRkRx_12.after, Region.binds .any ed = true → ∀ t', sRkRx[ed.on]? = some t' → ∃ v, a.tmps[t']? = some v ∧ specAt (spRkRx Va Vb Vc Vd Vu Vv Vp ga gb gc gd gu gv gs os n c bm ii kk mm sa sb sc sd su sv s0) ed.on v x) : Yld Try.prog R oRkRx_12 a x 214 (specAt (spRkRx Va Vb Vc Vd Vu Vv Vp ga gb gc gd gu gv gs os n c bm ii kk mm sa sb sc sd su sv s0) 12) := by
  obtain ⟨v11, t11, f11⟩ := dep ⟨11, .data⟩ (by simp [oRkRx_12]) rfl 213 rfl
  have f11 : v11 = (.bool true) := f11
  subst f11
  exact yld_move t11 rfl
theorem yRkRx_13 {a0 : Act} {w : World} {Va Vb Vc Vd Vu Vv Vp ga gb gc gd gu gv gs os n c bm ii kk mm sa sb sc sd su sv s0 : Nat} (E : EnvRkRx a0 w Va Vb Vc Vd Vu Vv Vp ga gb gc gd gu gv gs os n c bm ii kk mm sa sb sc sd su sv s0) {R : Exit → Act → World → Prop} {a : Act} {x : World} (q : Q w x) (oth : ∀ j, j ∉ sRkRx → a.tmps[j]? = a0.tmps[j]?) (dep : ∀ ed ∈ oRkRx_13.after, Region.binds .any ed = true → ∀ t', sRkRx[ed.on]? = some t' → ∃ v, a.tmps[t']? = some v ∧ specAt (spRkRx Va Vb Vc Vd Vu Vv Vp ga gb gc gd gu gv gs os n c bm ii kk mm sa sb sc sd su sv s0) ed.on v x) : Yld Try.prog R oRkRx_13 a x 215 (specAt (spRkRx Va Vb Vc Vd Vu Vv Vp ga gb gc gd gu gv gs os n c bm ii kk mm sa sb sc sd su sv s0) 13) := by
  have hs := (oth 15 (by decide)).trans E.h15
  exact yld_run (x' := x) rfl (by simp [oRkRx_13, execOp, go_sem, hs, ptrV]) (Q.refl x) rfl
theorem yRkRx_14 {a0 : Act} {w : World} {Va Vb Vc Vd Vu Vv Vp ga gb gc gd gu gv gs os n c bm ii kk mm sa sb sc sd su sv s0 : Nat} (E : EnvRkRx a0 w Va Vb Vc Vd Vu Vv Vp ga gb gc gd gu gv gs os n c bm ii kk mm sa sb sc sd su sv s0) {R : Exit → Act → World → Prop} {a : Act} {x : World} (q : Q w x) (oth : ∀ j, j ∉ sRkRx → a.tmps[j]? = a0.tmps[j]?) (dep : ∀ ed ∈ oRkRx_14.after, Region.binds .any ed = true → ∀ t', sRkRx[ed.on]? = some t' → ∃ v, a.tmps[t']? = some v ∧ specAt (spRkRx Va Vb Vc Vd Vu Vv Vp ga gb gc gd gu gv gs os n c bm ii kk mm sa sb sc sd su sv s0) ed.on v x) : Yld Try.prog R oRkRx_14 a x 216 (specAt (spRkRx Va Vb Vc Vd Vu Vv Vp ga gb gc gd gu gv gs os n c bm ii kk mm sa sb sc sd su sv s0) 14) := by
  obtain ⟨v13, t13, f13⟩ := dep ⟨13, .data⟩ (by simp [oRkRx_14]) rfl 215 rfl
  have f13 : v13 = (.pointer (some ⟨Va, 2, none⟩)) := f13
  subst f13
  have h13 := tmp_eval t13
  have hc := q.cell E.ca
  exact yld_run (x' := x) rfl (by simp [oRkRx_14, execOp, go_sem, t13, hc]) (Q.refl x) rfl
theorem yRkRx_15 {a0 : Act} {w : World} {Va Vb Vc Vd Vu Vv Vp ga gb gc gd gu gv gs os n c bm ii kk mm sa sb sc sd su sv s0 : Nat} (E : EnvRkRx a0 w Va Vb Vc Vd Vu Vv Vp ga gb gc gd gu gv gs os n c bm ii kk mm sa sb sc sd su sv s0) {R : Exit → Act → World → Prop} {a : Act} {x : World} (q : Q w x) (oth : ∀ j, j ∉ sRkRx → a.tmps[j]? = a0.tmps[j]?) (dep : ∀ ed ∈ oRkRx_15.after, Region.binds .any ed = true → ∀ t', sRkRx[ed.on]? = some t' → ∃ v, a.tmps[t']? = some v ∧ specAt (spRkRx Va Vb Vc Vd Vu Vv Vp ga gb gc gd gu gv gs os n c bm ii kk mm sa sb sc sd su sv s0) ed.on v x) : Yld Try.prog R oRkRx_15 a x 217 (specAt (spRkRx Va Vb Vc Vd Vu Vv Vp ga gb gc gd gu gv gs os n c bm ii kk mm sa sb sc sd su sv s0) 15) := by
  exact yld_move ((oth 31 (by decide)).trans E.h31) rfl
theorem yRkRx_16 {a0 : Act} {w : World} {Va Vb Vc Vd Vu Vv Vp ga gb gc gd gu gv gs os n c bm ii kk mm sa sb sc sd su sv s0 : Nat} (E : EnvRkRx a0 w Va Vb Vc Vd Vu Vv Vp ga gb gc gd gu gv gs os n c bm ii kk mm sa sb sc sd su sv s0) {R : Exit → Act → World → Prop} {a : Act} {x : World} (q : Q w x) (oth : ∀ j, j ∉ sRkRx → a.tmps[j]? = a0.tmps[j]?) (dep : ∀ ed ∈ oRkRx_16.after, Region.binds .any ed = true → ∀ t', sRkRx[ed.on]? = some t' → ∃ v, a.tmps[t']? = some v ∧ specAt (spRkRx Va Vb Vc Vd Vu Vv Vp ga gb gc gd gu gv gs os n c bm ii kk mm sa sb sc sd su sv s0) ed.on v x) : Yld Try.prog R oRkRx_16 a x 218 (specAt (spRkRx Va Vb Vc Vd Vu Vv Vp ga gb gc gd gu gv gs os n c bm ii kk mm sa sb sc sd su sv s0) 16) := by
  obtain ⟨v14, t14, f14⟩ := dep ⟨14, .data⟩ (by simp [oRkRx_16]) rfl 216 rfl
  have f14 : v14 = (.slice (some ⟨ga, 0, none⟩) n n) := f14
  subst f14
  obtain ⟨v15, t15, f15⟩ := dep ⟨15, .data⟩ (by simp [oRkRx_16]) rfl 217 rfl
  have f15 : v15 = (.int .i64 (ii : Int)) := f15
  subst f15
  exact yld_run (x' := x) rfl (run_ixr (Lw := n) (cap := n) (tmp_eval t14) (tmp_eval t15) E.hi) (Q.refl x) rfl
theorem yRkRx_17 {a0 : Act} {w : World} {Va Vb Vc Vd Vu Vv Vp ga gb gc gd gu gv gs os n c bm ii kk mm sa sb sc sd su sv s0 : Nat} (E : EnvRkRx a0 w Va Vb Vc Vd Vu Vv Vp ga gb gc gd gu gv gs os n c bm ii kk mm sa sb sc sd su sv s0) {R : Exit → Act → World → Prop} {a : Act} {x : World} (q : Q w x) (oth : ∀ j, j ∉ sRkRx → a.tmps[j]? = a0.tmps[j]?) (dep : ∀ ed ∈ oRkRx_17.after, Region.binds .any ed = true → ∀ t', sRkRx[ed.on]? = some t' → ∃ v, a.tmps[t']? = some v ∧ specAt (spRkRx Va Vb Vc Vd Vu Vv Vp ga gb gc gd gu gv gs os n c bm ii kk mm sa sb sc sd su sv s0) ed.on v x) : Yld Try.prog R oRkRx_17 a x 219 (specAt (spRkRx Va Vb Vc Vd Vu Vv Vp ga gb gc gd gu gv gs os n c bm ii kk mm sa sb sc sd su sv s0) 17) := by
  obtain ⟨v16, t16, f16⟩ := dep ⟨16, .data⟩ (by simp [oRkRx_17]) rfl 218 rfl
  have f16 : v16 = (.pointer (some ⟨ga, ii, none⟩)) := f16
  subst f16
  have h16 := tmp_eval t16
  have hc := q.cell E.ka
  exact yld_run (x' := x) rfl (by simp [oRkRx_17, execOp, go_sem, t16, hc]) (Q.refl x) rfl
theorem yRkRx_18 {a0 : Act} {w : World} {Va Vb Vc Vd Vu Vv Vp ga gb gc gd gu gv gs os n c bm ii kk mm sa sb sc sd su sv s0 : Nat} (E : EnvRkRx a0 w Va Vb Vc Vd Vu Vv Vp ga gb gc gd gu gv gs os n c bm ii kk mm sa sb sc sd su sv s0) {R : Exit → Act → World → Prop} {a : Act} {x : World} (q : Q w x) (oth : ∀ j, j ∉ sRkRx → a.tmps[j]? = a0.tmps[j]?) (dep : ∀ ed ∈ oRkRx_18.after, Region.binds .any ed = true → ∀ t', sRkRx[ed.on]? = some t' → ∃ v, a.tmps[t']? = some v ∧ specAt (spRkRx Va Vb Vc Vd Vu Vv Vp ga gb gc gd gu gv gs os n c bm ii kk mm sa sb sc sd su sv s0) ed.on v x) : Yld Try.prog R oRkRx_18 a x 220 (specAt (spRkRx Va Vb Vc Vd Vu Vv Vp ga gb gc gd gu gv gs os n c bm ii kk mm sa sb sc sd su sv s0) 18) := by
  obtain ⟨v17, t17, f17⟩ := dep ⟨17, .data⟩ (by simp [oRkRx_18]) rfl 219 rfl
  have f17 : v17 = (.int .u32 (sa : Int)) := f17
  subst f17
  refine yld_call (enters_of Try.func15 (by kernel_rfl) rfl) (vs := #[.int .u32 (sa : Int)]) (by simp [tmp_eval t17]) ((kkey_any sa E.ba x).mono ?_)
  rintro u x' ⟨rfl, rfl⟩
  exact ⟨_, rfl, Q.refl _, rfl⟩
theorem yRkRx_19 {a0 : Act} {w : World} {Va Vb Vc Vd Vu Vv Vp ga gb gc gd gu gv gs os n c bm ii kk mm sa sb sc sd su sv s0 : Nat} (E : EnvRkRx a0 w Va Vb Vc Vd Vu Vv Vp ga gb gc gd gu gv gs os n c bm ii kk mm sa sb sc sd su sv s0) {R : Exit → Act → World → Prop} {a : Act} {x : World} (q : Q w x) (oth : ∀ j, j ∉ sRkRx → a.tmps[j]? = a0.tmps[j]?) (dep : ∀ ed ∈ oRkRx_19.after, Region.binds .any ed = true → ∀ t', sRkRx[ed.on]? = some t' → ∃ v, a.tmps[t']? = some v ∧ specAt (spRkRx Va Vb Vc Vd Vu Vv Vp ga gb gc gd gu gv gs os n c bm ii kk mm sa sb sc sd su sv s0) ed.on v x) : Yld Try.prog R oRkRx_19 a x 221 (specAt (spRkRx Va Vb Vc Vd Vu Vv Vp ga gb gc gd gu gv gs os n c bm ii kk mm sa sb sc sd su sv s0) 19) := by
  have hs := (oth 17 (by decide)).trans E.h17
  exact yld_run (x' := x) rfl (by simp [oRkRx_19, execOp, go_sem, hs, ptrV]) (Q.refl x) rfl
theorem yRkRx_20 {a0 : Act} {w : World} {Va Vb Vc Vd Vu Vv Vp ga gb gc gd gu gv gs os n c bm ii kk mm sa sb sc sd su sv s0 : Nat} (E : EnvRkRx a0 w Va Vb Vc Vd Vu Vv Vp ga gb gc gd gu gv gs os n c bm ii kk mm sa sb sc sd su sv s0) {R : Exit → Act → World → Prop} {a : Act} {x : World} (q : Q w x) (oth : ∀ j, j ∉ sRkRx → a.tmps[j]? = a0.tmps[j]?) (dep : ∀ ed ∈ oRkRx_20.after, Region.binds .any ed = true → ∀ t', sRkRx[ed.on]? = some t' → ∃ v, a.tmps[t']? = some v ∧ specAt (spRkRx Va Vb Vc Vd Vu Vv Vp ga gb gc gd gu gv gs os n c bm ii kk mm sa sb sc sd su sv s0) ed.on v x) : Yld Try.prog R oRkRx_20 a x 222 (specAt (spRkRx Va Vb Vc Vd Vu Vv Vp ga gb gc gd gu gv gs os n c bm ii kk mm sa sb sc sd su sv s0) 20) := by
  obtain ⟨v19, t19, f19⟩ := dep ⟨19, .data⟩ (by simp [oRkRx_20]) rfl 221 rfl
  have f19 : v19 = (.pointer (some ⟨Vb, 2, none⟩)) := f19
  subst f19
  have h19 := tmp_eval t19
  have hc := q.cell E.cb
  exact yld_run (x' := x) rfl (by simp [oRkRx_20, execOp, go_sem, t19, hc]) (Q.refl x) rfl
theorem yRkRx_21 {a0 : Act} {w : World} {Va Vb Vc Vd Vu Vv Vp ga gb gc gd gu gv gs os n c bm ii kk mm sa sb sc sd su sv s0 : Nat} (E : EnvRkRx a0 w Va Vb Vc Vd Vu Vv Vp ga gb gc gd gu gv gs os n c bm ii kk mm sa sb sc sd su sv s0) {R : Exit → Act → World → Prop} {a : Act} {x : World} (q : Q w x) (oth : ∀ j, j ∉ sRkRx → a.tmps[j]? = a0.tmps[j]?) (dep : ∀ ed ∈ oRkRx_21.after, Region.binds .any ed = true → ∀ t', sRkRx[ed.on]? = some t' → ∃ v, a.tmps[t']? = some v ∧ specAt (spRkRx Va Vb Vc Vd Vu Vv Vp ga gb gc gd gu gv gs os n c bm ii kk mm sa sb sc sd su sv s0) ed.on v x) : Yld Try.prog R oRkRx_21 a x 223 (specAt (spRkRx Va Vb Vc Vd Vu Vv Vp ga gb gc gd gu gv gs os n c bm ii kk mm sa sb sc sd su sv s0) 21) := by
  exact yld_move ((oth 31 (by decide)).trans E.h31) rfl
theorem yRkRx_22 {a0 : Act} {w : World} {Va Vb Vc Vd Vu Vv Vp ga gb gc gd gu gv gs os n c bm ii kk mm sa sb sc sd su sv s0 : Nat} (E : EnvRkRx a0 w Va Vb Vc Vd Vu Vv Vp ga gb gc gd gu gv gs os n c bm ii kk mm sa sb sc sd su sv s0) {R : Exit → Act → World → Prop} {a : Act} {x : World} (q : Q w x) (oth : ∀ j, j ∉ sRkRx → a.tmps[j]? = a0.tmps[j]?) (dep : ∀ ed ∈ oRkRx_22.after, Region.binds .any ed = true → ∀ t', sRkRx[ed.on]? = some t' → ∃ v, a.tmps[t']? = some v ∧ specAt (spRkRx Va Vb Vc Vd Vu Vv Vp ga gb gc gd gu gv gs os n c bm ii kk mm sa sb sc sd su sv s0) ed.on v x) : Yld Try.prog R oRkRx_22 a x 224 (specAt (spRkRx Va Vb Vc Vd Vu Vv Vp ga gb gc gd gu gv gs os n c bm ii kk mm sa sb sc sd su sv s0) 22) := by
  obtain ⟨v20, t20, f20⟩ := dep ⟨20, .data⟩ (by simp [oRkRx_22]) rfl 222 rfl
  have f20 : v20 = (.slice (some ⟨gb, 0, none⟩) n n) := f20
  subst f20
  obtain ⟨v21, t21, f21⟩ := dep ⟨21, .data⟩ (by simp [oRkRx_22]) rfl 223 rfl
  have f21 : v21 = (.int .i64 (ii : Int)) := f21
  subst f21
  exact yld_run (x' := x) rfl (run_ixr (Lw := n) (cap := n) (tmp_eval t20) (tmp_eval t21) E.hi) (Q.refl x) rfl
theorem yRkRx_23 {a0 : Act} {w : World} {Va Vb Vc Vd Vu Vv Vp ga gb gc gd gu gv gs os n c bm ii kk mm sa sb sc sd su sv s0 : Nat} (E : EnvRkRx a0 w Va Vb Vc Vd Vu Vv Vp ga gb gc gd gu gv gs os n c bm ii kk mm sa sb sc sd su sv s0) {R : Exit → Act → World → Prop} {a : Act} {x : World} (q : Q w x) (oth : ∀ j, j ∉ sRkRx → a.tmps[j]? = a0.tmps[j]?) (dep : ∀ ed ∈ oRkRx_23.after, Region.binds .any ed = true → ∀ t', sRkRx[ed.on]? = some t' → ∃ v, a.tmps[t']? = some v ∧ specAt (spRkRx Va Vb Vc Vd Vu Vv Vp ga gb gc gd gu gv gs os n c bm ii kk mm sa sb sc sd su sv s0) ed.on v x) : Yld Try.prog R oRkRx_23 a x 225 (specAt (spRkRx Va Vb Vc Vd Vu Vv Vp ga gb gc gd gu gv gs os n c bm ii kk mm sa sb sc sd su sv s0) 23) := by
  obtain ⟨v22, t22, f22⟩ := dep ⟨22, .data⟩ (by simp [oRkRx_23]) rfl 224 rfl
  have f22 : v22 = (.pointer (some ⟨gb, ii, none⟩)) := f22
  subst f22
  have h22 := tmp_eval t22
  have hc := q.cell E.kb
  exact yld_run (x' := x) rfl (by simp [oRkRx_23, execOp, go_sem, t22, hc]) (Q.refl x) rfl
theorem yRkRx_24 {a0 : Act} {w : World} {Va Vb Vc Vd Vu Vv Vp ga gb gc gd gu gv gs os n c bm ii kk mm sa sb sc sd su sv s0 : Nat} (E : EnvRkRx a0 w Va Vb Vc Vd Vu Vv Vp ga gb gc gd gu gv gs os n c bm ii kk mm sa sb sc sd su sv s0) {R : Exit → Act → World → Prop} {a : Act} {x : World} (q : Q w x) (oth : ∀ j, j ∉ sRkRx → a.tmps[j]? = a0.tmps[j]?) (dep : ∀ ed ∈ oRkRx_24.after, Region.binds .any ed = true → ∀ t', sRkRx[ed.on]? = some t' → ∃ v, a.tmps[t']? = some v ∧ specAt (spRkRx Va Vb Vc Vd Vu Vv Vp ga gb gc gd gu gv gs os n c bm ii kk mm sa sb sc sd su sv s0) ed.on v x) : Yld Try.prog R oRkRx_24 a x 226 (specAt (spRkRx Va Vb Vc Vd Vu Vv Vp ga gb gc gd gu gv gs os n c bm ii kk mm sa sb sc sd su sv s0) 24) := by
  obtain ⟨v23, t23, f23⟩ := dep ⟨23, .data⟩ (by simp [oRkRx_24]) rfl 225 rfl
  have f23 : v23 = (.int .u32 (sb : Int)) := f23
  subst f23
  refine yld_call (enters_of Try.func15 (by kernel_rfl) rfl) (vs := #[.int .u32 (sb : Int)]) (by simp [tmp_eval t23]) ((kkey_any sb E.bb x).mono ?_)
  rintro u x' ⟨rfl, rfl⟩
  exact ⟨_, rfl, Q.refl _, rfl⟩
theorem yRkRx_25 {a0 : Act} {w : World} {Va Vb Vc Vd Vu Vv Vp ga gb gc gd gu gv gs os n c bm ii kk mm sa sb sc sd su sv s0 : Nat} (E : EnvRkRx a0 w Va Vb Vc Vd Vu Vv Vp ga gb gc gd gu gv gs os n c bm ii kk mm sa sb sc sd su sv s0) {R : Exit → Act → World → Prop} {a : Act} {x : World} (q : Q w x) (oth : ∀ j, j ∉ sRkRx → a.tmps[j]? = a0.tmps[j]?) (dep : ∀ ed ∈ oRkRx_25.after, Region.binds .any ed = true → ∀ t', sRkRx[ed.on]? = some t' → ∃ v, a.tmps[t']? = some v ∧ specAt (spRkRx Va Vb Vc Vd Vu Vv Vp ga gb gc gd gu gv gs os n c bm ii kk mm sa sb sc sd su sv s0) ed.on v x) : Yld Try.prog R oRkRx_25 a x 227 (specAt (spRkRx Va Vb Vc Vd Vu Vv Vp ga gb gc gd gu gv gs os n c bm ii kk mm sa sb sc sd su sv s0) 25) := by
  obtain ⟨v18, t18, f18⟩ := dep ⟨18, .data⟩ (by simp [oRkRx_25]) rfl 220 rfl
  have f18 : v18 = (.int .u32 ((keyN sa : Nat) : Int)) := f18
  subst f18
  obtain ⟨v24, t24, f24⟩ := dep ⟨24, .data⟩ (by simp [oRkRx_25]) rfl 226 rfl
  have f24 : v24 = (.int .u32 ((keyN sb : Nat) : Int)) := f24
  subst f24
  have h18 := tmp_eval t18
  have h24 := tmp_eval t24
  have hf := E.qab
  exact yld_run (x' := x) rfl (by simp [oRkRx_25, execOp, go_sem, t18, t24, hf]) (Q.refl x) rfl
theorem yRkRx_26 {a0 : Act} {w : World} {Va Vb Vc Vd Vu Vv Vp ga gb gc gd gu gv gs os n c bm ii kk mm sa sb sc sd su sv s0 : Nat} (E : EnvRkRx a0 w Va Vb Vc Vd Vu Vv Vp ga gb gc gd gu gv gs os n c bm ii kk mm sa sb sc sd su sv s0) {R : Exit → Act → World → Prop} {a : Act} {x : World} (q : Q w x) (oth : ∀ j, j ∉ sRkRx → a.tmps[j]? = a0.tmps[j]?) (dep : ∀ ed ∈ oRkRx_26.after, Region.binds .any ed = true → ∀ t', sRkRx[ed.on]? = some t' → ∃ v, a.tmps[t']? = some v ∧ specAt (spRkRx Va Vb Vc Vd Vu Vv Vp ga gb gc gd gu gv gs os n c bm ii kk mm sa sb sc sd su sv s0) ed.on v x) : Yld Try.prog R oRkRx_26 a x 228 (specAt (spRkRx Va Vb Vc Vd Vu Vv Vp ga gb gc gd gu gv gs os n c bm ii kk mm sa sb sc sd su sv s0) 26) := by
  obtain ⟨v12, t12, f12⟩ := dep ⟨12, .data⟩ (by simp [oRkRx_26]) rfl 214 rfl
  have f12 : v12 = (.bool true) := f12
  subst f12
  obtain ⟨v25, t25, f25⟩ := dep ⟨25, .data⟩ (by simp [oRkRx_26]) rfl 227 rfl
  have f25 : v25 = (.bool false) := f25
  subst f25
  exact yld_run (x' := x) rfl (run_pick (tmp_eval t12) (tmp_eval t25)) (Q.refl x) rfl
theorem yRkRx_27 {a0 : Act} {w : World} {Va Vb Vc Vd Vu Vv Vp ga gb gc gd gu gv gs os n c bm ii kk mm sa sb sc sd su sv s0 : Nat} (E : EnvRkRx a0 w Va Vb Vc Vd Vu Vv Vp ga gb gc gd gu gv gs os n c bm ii kk mm sa sb sc sd su sv s0) {R : Exit → Act → World → Prop} {a : Act} {x : World} (q : Q w x) (oth : ∀ j, j ∉ sRkRx → a.tmps[j]? = a0.tmps[j]?) (dep : ∀ ed ∈ oRkRx_27.after, Region.binds .any ed = true → ∀ t', sRkRx[ed.on]? = some t' → ∃ v, a.tmps[t']? = some v ∧ specAt (spRkRx Va Vb Vc Vd Vu Vv Vp ga gb gc gd gu gv gs os n c bm ii kk mm sa sb sc sd su sv s0) ed.on v x) : Yld Try.prog R oRkRx_27 a x 229 (specAt (spRkRx Va Vb Vc Vd Vu Vv Vp ga gb gc gd gu gv gs os n c bm ii kk mm sa sb sc sd su sv s0) 27) := by
  obtain ⟨v8, t8, f8⟩ := dep ⟨8, .data⟩ (by simp [oRkRx_27]) rfl 210 rfl
  have f8 : v8 = (.bool false) := f8
  subst f8
  obtain ⟨v26, t26, f26⟩ := dep ⟨26, .data⟩ (by simp [oRkRx_27]) rfl 228 rfl
  have f26 : v26 = (.bool false) := f26
  subst f26
  have h8 := tmp_eval t8
  have h26 := tmp_eval t26
  exact yld_run (x' := x) rfl (by simp [oRkRx_27, execOp, go_sem, t8, t26]) (Q.refl x) rfl
theorem yRkRx_28 {a0 : Act} {w : World} {Va Vb Vc Vd Vu Vv Vp ga gb gc gd gu gv gs os n c bm ii kk mm sa sb sc sd su sv s0 : Nat} (E : EnvRkRx a0 w Va Vb Vc Vd Vu Vv Vp ga gb gc gd gu gv gs os n c bm ii kk mm sa sb sc sd su sv s0) {R : Exit → Act → World → Prop} {a : Act} {x : World} (q : Q w x) (oth : ∀ j, j ∉ sRkRx → a.tmps[j]? = a0.tmps[j]?) (dep : ∀ ed ∈ oRkRx_28.after, Region.binds .any ed = true → ∀ t', sRkRx[ed.on]? = some t' → ∃ v, a.tmps[t']? = some v ∧ specAt (spRkRx Va Vb Vc Vd Vu Vv Vp ga gb gc gd gu gv gs os n c bm ii kk mm sa sb sc sd su sv s0) ed.on v x) : Yld Try.prog R oRkRx_28 a x 230 (specAt (spRkRx Va Vb Vc Vd Vu Vv Vp ga gb gc gd gu gv gs os n c bm ii kk mm sa sb sc sd su sv s0) 28) := by
  obtain ⟨v27, t27, f27⟩ := dep ⟨27, .data⟩ (by simp [oRkRx_28]) rfl 229 rfl
  have f27 : v27 = (.bool false) := f27
  subst f27
  exact yld_move t27 rfl
theorem yRkRx_29 {a0 : Act} {w : World} {Va Vb Vc Vd Vu Vv Vp ga gb gc gd gu gv gs os n c bm ii kk mm sa sb sc sd su sv s0 : Nat} (E : EnvRkRx a0 w Va Vb Vc Vd Vu Vv Vp ga gb gc gd gu gv gs os n c bm ii kk mm sa sb sc sd su sv s0) {R : Exit → Act → World → Prop} {a : Act} {x : World} (q : Q w x) (oth : ∀ j, j ∉ sRkRx → a.tmps[j]? = a0.tmps[j]?) (dep : ∀ ed ∈ oRkRx_29.after, Region.binds .any ed = true → ∀ t', sRkRx[ed.on]? = some t' → ∃ v, a.tmps[t']? = some v ∧ specAt (spRkRx Va Vb Vc Vd Vu Vv Vp ga gb gc gd gu gv gs os n c bm ii kk mm sa sb sc sd su sv s0) ed.on v x) : Yld Try.prog R oRkRx_29 a x 231 (specAt (spRkRx Va Vb Vc Vd Vu Vv Vp ga gb gc gd gu gv gs os n c bm ii kk mm sa sb sc sd su sv s0) 29) := by
  exact yld_move ((oth 5 (by decide)).trans E.h5) rfl
theorem yRkRx_30 {a0 : Act} {w : World} {Va Vb Vc Vd Vu Vv Vp ga gb gc gd gu gv gs os n c bm ii kk mm sa sb sc sd su sv s0 : Nat} (E : EnvRkRx a0 w Va Vb Vc Vd Vu Vv Vp ga gb gc gd gu gv gs os n c bm ii kk mm sa sb sc sd su sv s0) {R : Exit → Act → World → Prop} {a : Act} {x : World} (q : Q w x) (oth : ∀ j, j ∉ sRkRx → a.tmps[j]? = a0.tmps[j]?) (dep : ∀ ed ∈ oRkRx_30.after, Region.binds .any ed = true → ∀ t', sRkRx[ed.on]? = some t' → ∃ v, a.tmps[t']? = some v ∧ specAt (spRkRx Va Vb Vc Vd Vu Vv Vp ga gb gc gd gu gv gs os n c bm ii kk mm sa sb sc sd su sv s0) ed.on v x) : Yld Try.prog R oRkRx_30 a x 232 (specAt (spRkRx Va Vb Vc Vd Vu Vv Vp ga gb gc gd gu gv gs os n c bm ii kk mm sa sb sc sd su sv s0) 30) := by
  exact yld_move ((oth 6 (by decide)).trans E.h6) rfl
theorem yRkRx_31 {a0 : Act} {w : World} {Va Vb Vc Vd Vu Vv Vp ga gb gc gd gu gv gs os n c bm ii kk mm sa sb sc sd su sv s0 : Nat} (E : EnvRkRx a0 w Va Vb Vc Vd Vu Vv Vp ga gb gc gd gu gv gs os n c bm ii kk mm sa sb sc sd su sv s0) {R : Exit → Act → World → Prop} {a : Act} {x : World} (q : Q w x) (oth : ∀ j, j ∉ sRkRx → a.tmps[j]? = a0.tmps[j]?) (dep : ∀ ed ∈ oRkRx_31.after, Region.binds .any ed = true → ∀ t', sRkRx[ed.on]? = some t' → ∃ v, a.tmps[t']? = some v ∧ specAt (spRkRx Va Vb Vc Vd Vu Vv Vp ga gb gc gd gu gv gs os n c bm ii kk mm sa sb sc sd su sv s0) ed.on v x) : Yld Try.prog R oRkRx_31 a x 233 (specAt (spRkRx Va Vb Vc Vd Vu Vv Vp ga gb gc gd gu gv gs os n c bm ii kk mm sa sb sc sd su sv s0) 31) := by
  obtain ⟨v29, t29, f29⟩ := dep ⟨29, .data⟩ (by simp [oRkRx_31]) rfl 231 rfl
  have f29 : v29 = (.int .i64 (kk : Int)) := f29
  subst f29
  obtain ⟨v30, t30, f30⟩ := dep ⟨30, .data⟩ (by simp [oRkRx_31]) rfl 232 rfl
  have f30 : v30 = (.int .i64 (mm : Int)) := f30
  subst f30
  have h29 := tmp_eval t29
  have h30 := tmp_eval t30
  have hf := E.ge
  exact yld_run (x' := x) rfl (by simp [oRkRx_31, execOp, go_sem, t29, t30, hf]) (Q.refl x) rfl
theorem yRkRx_32 {a0 : Act} {w : World} {Va Vb Vc Vd Vu Vv Vp ga gb gc gd gu gv gs os n c bm ii kk mm sa sb sc sd su sv s0 : Nat} (E : EnvRkRx a0 w Va Vb Vc Vd Vu Vv Vp ga gb gc gd gu gv gs os n c bm ii kk mm sa sb sc sd su sv s0) {R : Exit → Act → World → Prop} {a : Act} {x : World} (q : Q w x) (oth : ∀ j, j ∉ sRkRx → a.tmps[j]? = a0.tmps[j]?) (dep : ∀ ed ∈ oRkRx_32.after, Region.binds .any ed = true → ∀ t', sRkRx[ed.on]? = some t' → ∃ v, a.tmps[t']? = some v ∧ specAt (spRkRx Va Vb Vc Vd Vu Vv Vp ga gb gc gd gu gv gs os n c bm ii kk mm sa sb sc sd su sv s0) ed.on v x) : Yld Try.prog R oRkRx_32 a x 234 (specAt (spRkRx Va Vb Vc Vd Vu Vv Vp ga gb gc gd gu gv gs os n c bm ii kk mm sa sb sc sd su sv s0) 32) := by
  obtain ⟨v31, t31, f31⟩ := dep ⟨31, .data⟩ (by simp [oRkRx_32]) rfl 233 rfl
  have f31 : v31 = (.bool true) := f31
  subst f31
  exact yld_move t31 rfl
theorem yRkRx_33 {a0 : Act} {w : World} {Va Vb Vc Vd Vu Vv Vp ga gb gc gd gu gv gs os n c bm ii kk mm sa sb sc sd su sv s0 : Nat} (E : EnvRkRx a0 w Va Vb Vc Vd Vu Vv Vp ga gb gc gd gu gv gs os n c bm ii kk mm sa sb sc sd su sv s0) {R : Exit → Act → World → Prop} {a : Act} {x : World} (q : Q w x) (oth : ∀ j, j ∉ sRkRx → a.tmps[j]? = a0.tmps[j]?) (dep : ∀ ed ∈ oRkRx_33.after, Region.binds .any ed = true → ∀ t', sRkRx[ed.on]? = some t' → ∃ v, a.tmps[t']? = some v ∧ specAt (spRkRx Va Vb Vc Vd Vu Vv Vp ga gb gc gd gu gv gs os n c bm ii kk mm sa sb sc sd su sv s0) ed.on v x) : Yld Try.prog R oRkRx_33 a x 235 (specAt (spRkRx Va Vb Vc Vd Vu Vv Vp ga gb gc gd gu gv gs os n c bm ii kk mm sa sb sc sd su sv s0) 33) := by
  have hs := (oth 15 (by decide)).trans E.h15
  exact yld_run (x' := x) rfl (by simp [oRkRx_33, execOp, go_sem, hs, ptrV]) (Q.refl x) rfl
theorem yRkRx_34 {a0 : Act} {w : World} {Va Vb Vc Vd Vu Vv Vp ga gb gc gd gu gv gs os n c bm ii kk mm sa sb sc sd su sv s0 : Nat} (E : EnvRkRx a0 w Va Vb Vc Vd Vu Vv Vp ga gb gc gd gu gv gs os n c bm ii kk mm sa sb sc sd su sv s0) {R : Exit → Act → World → Prop} {a : Act} {x : World} (q : Q w x) (oth : ∀ j, j ∉ sRkRx → a.tmps[j]? = a0.tmps[j]?) (dep : ∀ ed ∈ oRkRx_34.after, Region.binds .any ed = true → ∀ t', sRkRx[ed.on]? = some t' → ∃ v, a.tmps[t']? = some v ∧ specAt (spRkRx Va Vb Vc Vd Vu Vv Vp ga gb gc gd gu gv gs os n c bm ii kk mm sa sb sc sd su sv s0) ed.on v x) : Yld Try.prog R oRkRx_34 a x 236 (specAt (spRkRx Va Vb Vc Vd Vu Vv Vp ga gb gc gd gu gv gs os n c bm ii kk mm sa sb sc sd su sv s0) 34) := by
  obtain ⟨v33, t33, f33⟩ := dep ⟨33, .data⟩ (by simp [oRkRx_34]) rfl 235 rfl
  have f33 : v33 = (.pointer (some ⟨Va, 2, none⟩)) := f33
  subst f33
  have h33 := tmp_eval t33
  have hc := q.cell E.ca
  exact yld_run (x' := x) rfl (by simp [oRkRx_34, execOp, go_sem, t33, hc]) (Q.refl x) rfl
theorem yRkRx_35 {a0 : Act} {w : World} {Va Vb Vc Vd Vu Vv Vp ga gb gc gd gu gv gs os n c bm ii kk mm sa sb sc sd su sv s0 : Nat} (E : EnvRkRx a0 w Va Vb Vc Vd Vu Vv Vp ga gb gc gd gu gv gs os n c bm ii kk mm sa sb sc sd su sv s0) {R : Exit → Act → World → Prop} {a : Act} {x : World} (q : Q w x) (oth : ∀ j, j ∉ sRkRx → a.tmps[j]? = a0.tmps[j]?) (dep : ∀ ed ∈ oRkRx_35.after, Region.binds .any ed = true → ∀ t', sRkRx[ed.on]? = some t' → ∃ v, a.tmps[t']? = some v ∧ specAt (spRkRx Va Vb Vc Vd Vu Vv Vp ga gb gc gd gu gv gs os n c bm ii kk mm sa sb sc sd su sv s0) ed.on v x) : Yld Try.prog R oRkRx_35 a x 237 (specAt (spRkRx Va Vb Vc Vd Vu Vv Vp ga gb gc gd gu gv gs os n c bm ii kk mm sa sb sc sd su sv s0) 35) := by
  exact yld_move ((oth 31 (by decide)).trans E.h31) rfl
theorem yRkRx_36 {a0 : Act} {w : World} {Va Vb Vc Vd Vu Vv Vp ga gb gc gd gu gv gs os n c bm ii kk mm sa sb sc sd su sv s0 : Nat} (E : EnvRkRx a0 w Va Vb Vc Vd Vu Vv Vp ga gb gc gd gu gv gs os n c bm ii kk mm sa sb sc sd su sv s0) {R : Exit → Act → World → Prop} {a : Act} {x : World} (q : Q w x) (oth : ∀ j, j ∉ sRkRx → a.tmps[j]? = a0.tmps[j]?) (dep : ∀ ed ∈ oRkRx_36.after, Region.binds .any ed = true → ∀ t', sRkRx[ed.on]? = some t' → ∃ v, a.tmps[t']? = some v ∧ specAt (spRkRx Va Vb Vc Vd Vu Vv Vp ga gb gc gd gu gv gs os n c bm ii kk mm sa sb sc sd su sv s0) ed.on v x) : Yld Try.prog R oRkRx_36 a x 238 (specAt (spRkRx Va Vb Vc Vd Vu Vv Vp ga gb gc gd gu gv gs os n c bm ii kk mm sa sb sc sd su sv s0) 36) := by
  obtain ⟨v34, t34, f34⟩ := dep ⟨34, .data⟩ (by simp [oRkRx_36]) rfl 236 rfl
  have f34 : v34 = (.slice (some ⟨ga, 0, none⟩) n n) := f34
  subst f34
  obtain ⟨v35, t35, f35⟩ := dep ⟨35, .data⟩ (by simp [oRkRx_36]) rfl 237 rfl
  have f35 : v35 = (.int .i64 (ii : Int)) := f35
  subst f35
  exact yld_run (x' := x) rfl (run_ixr (Lw := n) (cap := n) (tmp_eval t34) (tmp_eval t35) E.hi) (Q.refl x) rfl
theorem yRkRx_37 {a0 : Act} {w : World} {Va Vb Vc Vd Vu Vv Vp ga gb gc gd gu gv gs os n c bm ii kk mm sa sb sc sd su sv s0 : Nat} (E : EnvRkRx a0 w Va Vb Vc Vd Vu Vv Vp ga gb gc gd gu gv gs os n c bm ii kk mm sa sb sc sd su sv s0) {R : Exit → Act → World → Prop} {a : Act} {x : World} (q : Q w x) (oth : ∀ j, j ∉ sRkRx → a.tmps[j]? = a0.tmps[j]?) (dep : ∀ ed ∈ oRkRx_37.after, Region.binds .any ed = true → ∀ t', sRkRx[ed.on]? = some t' → ∃ v, a.tmps[t']? = some v ∧ specAt (spRkRx Va Vb Vc Vd Vu Vv Vp ga gb gc gd gu gv gs os n c bm ii kk mm sa sb sc sd su sv s0) ed.on v x) : Yld Try.prog R oRkRx_37 a x 239 (specAt (spRkRx Va Vb Vc Vd Vu Vv Vp ga gb gc gd gu gv gs os n c bm ii kk mm sa sb sc sd su sv s0) 37) := by
  obtain ⟨v36, t36, f36⟩ := dep ⟨36, .data⟩ (by simp [oRkRx_37]) rfl 238 rfl
  have f36 : v36 = (.pointer (some ⟨ga, ii, none⟩)) := f36
  subst f36
  have h36 := tmp_eval t36
  have hc := q.cell E.ka
  exact yld_run (x' := x) rfl (by simp [oRkRx_37, execOp, go_sem, t36, hc]) (Q.refl x) rfl
theorem yRkRx_38 {a0 : Act} {w : World} {Va Vb Vc Vd Vu Vv Vp ga gb gc gd gu gv gs os n c bm ii kk mm sa sb sc sd su sv s0 : Nat} (E : EnvRkRx a0 w Va Vb Vc Vd Vu Vv Vp ga gb gc gd gu gv gs os n c bm ii kk mm sa sb sc sd su sv s0) {R : Exit → Act → World → Prop} {a : Act} {x : World} (q : Q w x) (oth : ∀ j, j ∉ sRkRx → a.tmps[j]? = a0.tmps[j]?) (dep : ∀ ed ∈ oRkRx_38.after, Region.binds .any ed = true → ∀ t', sRkRx[ed.on]? = some t' → ∃ v, a.tmps[t']? = some v ∧ specAt (spRkRx Va Vb Vc Vd Vu Vv Vp ga gb gc gd gu gv gs os n c bm ii kk mm sa sb sc sd su sv s0) ed.on v x) : Yld Try.prog R oRkRx_38 a x 240 (specAt (spRkRx Va Vb Vc Vd Vu Vv Vp ga gb gc gd gu gv gs os n c bm ii kk mm sa sb sc sd su sv s0) 38) := by
  obtain ⟨v37, t37, f37⟩ := dep ⟨37, .data⟩ (by simp [oRkRx_38]) rfl 239 rfl
  have f37 : v37 = (.int .u32 (sa : Int)) := f37
  subst f37
  refine yld_call (enters_of Try.func15 (by kernel_rfl) rfl) (vs := #[.int .u32 (sa : Int)]) (by simp [tmp_eval t37]) ((kkey_any sa E.ba x).mono ?_)
  rintro u x' ⟨rfl, rfl⟩
  exact ⟨_, rfl, Q.refl _, rfl⟩
theorem yRkRx_39 {a0 : Act} {w : World} {Va Vb Vc Vd Vu Vv Vp ga gb gc gd gu gv gs os n c bm ii kk mm sa sb sc sd su sv s0 : Nat} (E : EnvRkRx a0 w Va Vb Vc Vd Vu Vv Vp ga gb gc gd gu gv gs os n c bm ii kk mm sa sb sc sd su sv s0) {R : Exit → Act → World → Prop} {a : Act} {x : World} (q : Q w x) (oth : ∀ j, j ∉ sRkRx → a.tmps[j]? = a0.tmps[j]?) (dep : ∀ ed ∈ oRkRx_39.after, Region.binds .any ed = true → ∀ t', sRkRx[ed.on]? = some t' → ∃ v, a.tmps[t']? = some v ∧ specAt (spRkRx Va Vb Vc Vd Vu Vv Vp ga gb gc gd gu gv gs os n c bm ii kk mm sa sb sc sd su sv s0) ed.on v x) : Yld Try.prog R oRkRx_39 a x 241 (specAt (spRkRx Va Vb Vc Vd Vu Vv Vp ga gb gc gd gu gv gs os n c bm ii kk mm sa sb sc sd su sv s0) 39) := by
  have hs := (oth 17 (by decide)).trans E.h17
  exact yld_run (x' := x) rfl (by simp [oRkRx_39, execOp, go_sem, hs, ptrV]) (Q.refl x) rfl
theorem yRkRx_40 {a0 : Act} {w : World} {Va Vb Vc Vd Vu Vv Vp ga gb gc gd gu gv gs os n c bm ii kk mm sa sb sc sd su sv s0 : Nat} (E : EnvRkRx a0 w Va Vb Vc Vd Vu Vv Vp ga gb gc gd gu gv gs os n c bm ii kk mm sa sb sc sd su sv s0) {R : Exit → Act → World → Prop} {a : Act} {x : World} (q : Q w x) (oth : ∀ j, j ∉ sRkRx → a.tmps[j]? = a0.tmps[j]?) (dep : ∀ ed ∈ oRkRx_40.after, Region.binds .any ed = true → ∀ t', sRkRx[ed.on]? = some t' → ∃ v, a.tmps[t']? = some v ∧ specAt (spRkRx Va Vb Vc Vd Vu Vv Vp ga gb gc gd gu gv gs os n c bm ii kk mm sa sb sc sd su sv s0) ed.on v x) : Yld Try.prog R oRkRx_40 a x 242 (specAt (spRkRx Va Vb Vc Vd Vu Vv Vp ga gb gc gd gu gv gs os n c bm ii kk mm sa sb sc sd su sv s0) 40) := by
  obtain ⟨v39, t39, f39⟩ := dep ⟨39, .data⟩ (by simp [oRkRx_40]) rfl 241 rfl
  have f39 : v39 = (.pointer (some ⟨Vb, 2, none⟩)) := f39
  subst f39
  have h39 := tmp_eval t39
  have hc := q.cell E.cb
  exact yld_run (x' := x) rfl (by simp [oRkRx_40, execOp, go_sem, t39, hc]) (Q.refl x) rfl
theorem yRkRx_41 {a0 : Act} {w : World} {Va Vb Vc Vd Vu Vv Vp ga gb gc gd gu gv gs os n c bm ii kk mm sa sb sc sd su sv s0 : Nat} (E : EnvRkRx a0 w Va Vb Vc Vd Vu Vv Vp ga gb gc gd gu gv gs os n c bm ii kk mm sa sb sc sd su sv s0) {R : Exit → Act → World → Prop} {a : Act} {x : World} (q : Q w x) (oth : ∀ j, j ∉ sRkRx → a.tmps[j]? = a0.tmps[j]?) (dep : ∀ ed ∈ oRkRx_41.after, Region.binds .any ed = true → ∀ t', sRkRx[ed.on]? = some t' → ∃ v, a.tmps[t']? = some v ∧ specAt (spRkRx Va Vb Vc Vd Vu Vv Vp ga gb gc gd gu gv gs os n c bm ii kk mm sa sb sc sd su sv s0) ed.on v x) : Yld Try.prog R oRkRx_41 a x 243 (specAt (spRkRx Va Vb Vc Vd Vu Vv Vp ga gb gc gd gu gv gs os n c bm ii kk mm sa sb sc sd su sv s0) 41) := by
  exact yld_move ((oth 31 (by decide)).trans E.h31) rfl
theorem yRkRx_42 {a0 : Act} {w : World} {Va Vb Vc Vd Vu Vv Vp ga gb gc gd gu gv gs os n c bm ii kk mm sa sb sc sd su sv s0 : Nat} (E : EnvRkRx a0 w Va Vb Vc Vd Vu Vv Vp ga gb gc gd gu gv gs os n c bm ii kk mm sa sb sc sd su sv s0) {R : Exit → Act → World → Prop} {a : Act} {x : World} (q : Q w x) (oth : ∀ j, j ∉ sRkRx → a.tmps[j]? = a0.tmps[j]?) (dep : ∀ ed ∈ oRkRx_42.after, Region.binds .any ed = true → ∀ t', sRkRx[ed.on]? = some t' → ∃ v, a.tmps[t']? = some v ∧ specAt (spRkRx Va Vb Vc Vd Vu Vv Vp ga gb gc gd gu gv gs os n c bm ii kk mm sa sb sc sd su sv s0) ed.on v x) : Yld Try.prog R oRkRx_42 a x 244 (specAt (spRkRx Va Vb Vc Vd Vu Vv Vp ga gb gc gd gu gv gs os n c bm ii kk mm sa sb sc sd su sv s0) 42) := by
  obtain ⟨v40, t40, f40⟩ := dep ⟨40, .data⟩ (by simp [oRkRx_42]) rfl 242 rfl
  have f40 : v40 = (.slice (some ⟨gb, 0, none⟩) n n) := f40
  subst f40
  obtain ⟨v41, t41, f41⟩ := dep ⟨41, .data⟩ (by simp [oRkRx_42]) rfl 243 rfl
  have f41 : v41 = (.int .i64 (ii : Int)) := f41
  subst f41
  exact yld_run (x' := x) rfl (run_ixr (Lw := n) (cap := n) (tmp_eval t40) (tmp_eval t41) E.hi) (Q.refl x) rfl
theorem yRkRx_43 {a0 : Act} {w : World} {Va Vb Vc Vd Vu Vv Vp ga gb gc gd gu gv gs os n c bm ii kk mm sa sb sc sd su sv s0 : Nat} (E : EnvRkRx a0 w Va Vb Vc Vd Vu Vv Vp ga gb gc gd gu gv gs os n c bm ii kk mm sa sb sc sd su sv s0) {R : Exit → Act → World → Prop} {a : Act} {x : World} (q : Q w x) (oth : ∀ j, j ∉ sRkRx → a.tmps[j]? = a0.tmps[j]?) (dep : ∀ ed ∈ oRkRx_43.after, Region.binds .any ed = true → ∀ t', sRkRx[ed.on]? = some t' → ∃ v, a.tmps[t']? = some v ∧ specAt (spRkRx Va Vb Vc Vd Vu Vv Vp ga gb gc gd gu gv gs os n c bm ii kk mm sa sb sc sd su sv s0) ed.on v x) : Yld Try.prog R oRkRx_43 a x 245 (specAt (spRkRx Va Vb Vc Vd Vu Vv Vp ga gb gc gd gu gv gs os n c bm ii kk mm sa sb sc sd su sv s0) 43) := by
  obtain ⟨v42, t42, f42⟩ := dep ⟨42, .data⟩ (by simp [oRkRx_43]) rfl 244 rfl
  have f42 : v42 = (.pointer (some ⟨gb, ii, none⟩)) := f42
  subst f42
  have h42 := tmp_eval t42
  have hc := q.cell E.kb
  exact yld_run (x' := x) rfl (by simp [oRkRx_43, execOp, go_sem, t42, hc]) (Q.refl x) rfl
theorem yRkRx_44 {a0 : Act} {w : World} {Va Vb Vc Vd Vu Vv Vp ga gb gc gd gu gv gs os n c bm ii kk mm sa sb sc sd su sv s0 : Nat} (E : EnvRkRx a0 w Va Vb Vc Vd Vu Vv Vp ga gb gc gd gu gv gs os n c bm ii kk mm sa sb sc sd su sv s0) {R : Exit → Act → World → Prop} {a : Act} {x : World} (q : Q w x) (oth : ∀ j, j ∉ sRkRx → a.tmps[j]? = a0.tmps[j]?) (dep : ∀ ed ∈ oRkRx_44.after, Region.binds .any ed = true → ∀ t', sRkRx[ed.on]? = some t' → ∃ v, a.tmps[t']? = some v ∧ specAt (spRkRx Va Vb Vc Vd Vu Vv Vp ga gb gc gd gu gv gs os n c bm ii kk mm sa sb sc sd su sv s0) ed.on v x) : Yld Try.prog R oRkRx_44 a x 246 (specAt (spRkRx Va Vb Vc Vd Vu Vv Vp ga gb gc gd gu gv gs os n c bm ii kk mm sa sb sc sd su sv s0) 44) := by
  obtain ⟨v43, t43, f43⟩ := dep ⟨43, .data⟩ (by simp [oRkRx_44]) rfl 245 rfl
  have f43 : v43 = (.int .u32 (sb : Int)) := f43
  subst f43
  refine yld_call (enters_of Try.func15 (by kernel_rfl) rfl) (vs := #[.int .u32 (sb : Int)]) (by simp [tmp_eval t43]) ((kkey_any sb E.bb x).mono ?_)
  rintro u x' ⟨rfl, rfl⟩
  exact ⟨_, rfl, Q.refl _, rfl⟩
theorem yRkRx_45 {a0 : Act} {w : World} {Va Vb Vc Vd Vu Vv Vp ga gb gc gd gu gv gs os n c bm ii kk mm sa sb sc sd su sv s0 : Nat} (E : EnvRkRx a0 w Va Vb Vc Vd Vu Vv Vp ga gb gc gd gu gv gs os n c bm ii kk mm sa sb sc sd su sv s0) {R : Exit → Act → World → Prop} {a : Act} {x : World} (q : Q w x) (oth : ∀ j, j ∉ sRkRx → a.tmps[j]? = a0.tmps[j]?) (dep : ∀ ed ∈ oRkRx_45.after, Region.binds .any ed = true → ∀ t', sRkRx[ed.on]? = some t' → ∃ v, a.tmps[t']? = some v ∧ specAt (spRkRx Va Vb Vc Vd Vu Vv Vp ga gb gc gd gu gv gs os n c bm ii kk mm sa sb sc sd su sv s0) ed.on v x) : Yld Try.prog R oRkRx_45 a x 247 (specAt (spRkRx Va Vb Vc Vd Vu Vv Vp ga gb gc gd gu gv gs os n c bm ii kk mm sa sb sc sd su sv s0) 45) := by
  obtain ⟨v38, t38, f38⟩ := dep ⟨38, .data⟩ (by simp [oRkRx_45]) rfl 240 rfl
  have f38 : v38 = (.int .u32 ((keyN sa : Nat) : Int)) := f38
  subst f38
  obtain ⟨v44, t44, f44⟩ := dep ⟨44, .data⟩ (by simp [oRkRx_45]) rfl 246 rfl
  have f44 : v44 = (.int .u32 ((keyN sb : Nat) : Int)) := f44
  subst f44
  have h38 := tmp_eval t38
  have h44 := tmp_eval t44
  have hf := E.qab
  exact yld_run (x' := x) rfl (by simp [oRkRx_45, execOp, go_sem, t38, t44, hf]) (Q.refl x) rfl
theorem yRkRx_46 {a0 : Act} {w : World} {Va Vb Vc Vd Vu Vv Vp ga gb gc gd gu gv gs os n c bm ii kk mm sa sb sc sd su sv s0 : Nat} (E : EnvRkRx a0 w Va Vb Vc Vd Vu Vv Vp ga gb gc gd gu gv gs os n c bm ii kk mm sa sb sc sd su sv s0) {R : Exit → Act → World → Prop} {a : Act} {x : World} (q : Q w x) (oth : ∀ j, j ∉ sRkRx → a.tmps[j]? = a0.tmps[j]?) (dep : ∀ ed ∈ oRkRx_46.after, Region.binds .any ed = true → ∀ t', sRkRx[ed.on]? = some t' → ∃ v, a.tmps[t']? = some v ∧ specAt (spRkRx Va Vb Vc Vd Vu Vv Vp ga gb gc gd gu gv gs os n c bm ii kk mm sa sb sc sd su sv s0) ed.on v x) : Yld Try.prog R oRkRx_46 a x 248 (specAt (spRkRx Va Vb Vc Vd Vu Vv Vp ga gb gc gd gu gv gs os n c bm ii kk mm sa sb sc sd su sv s0) 46) := by
  obtain ⟨v32, t32, f32⟩ := dep ⟨32, .data⟩ (by simp [oRkRx_46]) rfl 234 rfl
  have f32 : v32 = (.bool true) := f32
  subst f32
  obtain ⟨v45, t45, f45⟩ := dep ⟨45, .data⟩ (by simp [oRkRx_46]) rfl 247 rfl
  have f45 : v45 = (.bool false) := f45
  subst f45
  exact yld_run (x' := x) rfl (run_pick (tmp_eval t32) (tmp_eval t45)) (Q.refl x) rfl
theorem yRkRx_47 {a0 : Act} {w : World} {Va Vb Vc Vd Vu Vv Vp ga gb gc gd gu gv gs os n c bm ii kk mm sa sb sc sd su sv s0 : Nat} (E : EnvRkRx a0 w Va Vb Vc Vd Vu Vv Vp ga gb gc gd gu gv gs os n c bm ii kk mm sa sb sc sd su sv s0) {R : Exit → Act → World → Prop} {a : Act} {x : World} (q : Q w x) (oth : ∀ j, j ∉ sRkRx → a.tmps[j]? = a0.tmps[j]?) (dep : ∀ ed ∈ oRkRx_47.after, Region.binds .any ed = true → ∀ t', sRkRx[ed.on]? = some t' → ∃ v, a.tmps[t']? = some v ∧ specAt (spRkRx Va Vb Vc Vd Vu Vv Vp ga gb gc gd gu gv gs os n c bm ii kk mm sa sb sc sd su sv s0) ed.on v x) : Yld Try.prog R oRkRx_47 a x 249 (specAt (spRkRx Va Vb Vc Vd Vu Vv Vp ga gb gc gd gu gv gs os n c bm ii kk mm sa sb sc sd su sv s0) 47) := by
  obtain ⟨v28, t28, f28⟩ := dep ⟨28, .data⟩ (by simp [oRkRx_47]) rfl 230 rfl
  have f28 : v28 = (.bool false) := f28
  subst f28
  obtain ⟨v46, t46, f46⟩ := dep ⟨46, .data⟩ (by simp [oRkRx_47]) rfl 248 rfl
  have f46 : v46 = (.bool false) := f46
  subst f46
  have h28 := tmp_eval t28
  have h46 := tmp_eval t46
  exact yld_run (x' := x) rfl (by simp [oRkRx_47, execOp, go_sem, t28, t46]) (Q.refl x) rfl
theorem yRkRx_48 {a0 : Act} {w : World} {Va Vb Vc Vd Vu Vv Vp ga gb gc gd gu gv gs os n c bm ii kk mm sa sb sc sd su sv s0 : Nat} (E : EnvRkRx a0 w Va Vb Vc Vd Vu Vv Vp ga gb gc gd gu gv gs os n c bm ii kk mm sa sb sc sd su sv s0) {R : Exit → Act → World → Prop} {a : Act} {x : World} (q : Q w x) (oth : ∀ j, j ∉ sRkRx → a.tmps[j]? = a0.tmps[j]?) (dep : ∀ ed ∈ oRkRx_48.after, Region.binds .any ed = true → ∀ t', sRkRx[ed.on]? = some t' → ∃ v, a.tmps[t']? = some v ∧ specAt (spRkRx Va Vb Vc Vd Vu Vv Vp ga gb gc gd gu gv gs os n c bm ii kk mm sa sb sc sd su sv s0) ed.on v x) : Yld Try.prog R oRkRx_48 a x 250 (specAt (spRkRx Va Vb Vc Vd Vu Vv Vp ga gb gc gd gu gv gs os n c bm ii kk mm sa sb sc sd su sv s0) 48) := by
  obtain ⟨v47, t47, f47⟩ := dep ⟨47, .data⟩ (by simp [oRkRx_48]) rfl 249 rfl
  have f47 : v47 = (.bool false) := f47
  subst f47
  exact yld_move t47 rfl
theorem yRkRx_49 {a0 : Act} {w : World} {Va Vb Vc Vd Vu Vv Vp ga gb gc gd gu gv gs os n c bm ii kk mm sa sb sc sd su sv s0 : Nat} (E : EnvRkRx a0 w Va Vb Vc Vd Vu Vv Vp ga gb gc gd gu gv gs os n c bm ii kk mm sa sb sc sd su sv s0) {R : Exit → Act → World → Prop} {a : Act} {x : World} (q : Q w x) (oth : ∀ j, j ∉ sRkRx → a.tmps[j]? = a0.tmps[j]?) (dep : ∀ ed ∈ oRkRx_49.after, Region.binds .any ed = true → ∀ t', sRkRx[ed.on]? = some t' → ∃ v, a.tmps[t']? = some v ∧ specAt (spRkRx Va Vb Vc Vd Vu Vv Vp ga gb gc gd gu gv gs os n c bm ii kk mm sa sb sc sd su sv s0) ed.on v x) : Yld Try.prog R oRkRx_49 a x 251 (specAt (spRkRx Va Vb Vc Vd Vu Vv Vp ga gb gc gd gu gv gs os n c bm ii kk mm sa sb sc sd su sv s0) 49) := by
  have hs := (oth 23 (by decide)).trans E.h23
  exact yld_run (x' := x) rfl (by simp [oRkRx_49, execOp, go_sem, hs, ptrV]) (Q.refl x) rfl
theorem yRkRx_50 {a0 : Act} {w : World} {Va Vb Vc Vd Vu Vv Vp ga gb gc gd gu gv gs os n c bm ii kk mm sa sb sc sd su sv s0 : Nat} (E : EnvRkRx a0 w Va Vb Vc Vd Vu Vv Vp ga gb gc gd gu gv gs os n c bm ii kk mm sa sb sc sd su sv s0) {R : Exit → Act → World → Prop} {a : Act} {x : World} (q : Q w x) (oth : ∀ j, j ∉ sRkRx → a.tmps[j]? = a0.tmps[j]?) (dep : ∀ ed ∈ oRkRx_50.after, Region.binds .any ed = true → ∀ t', sRkRx[ed.on]? = some t' → ∃ v, a.tmps[t']? = some v ∧ specAt (spRkRx Va Vb Vc Vd Vu Vv Vp ga gb gc gd gu gv gs os n c bm ii kk mm sa sb sc sd su sv s0) ed.on v x) : Yld Try.prog R oRkRx_50 a x 252 (specAt (spRkRx Va Vb Vc Vd Vu Vv Vp ga gb gc gd gu gv gs os n c bm ii kk mm sa sb sc sd su sv s0) 50) := by
  obtain ⟨v49, t49, f49⟩ := dep ⟨49, .data⟩ (by simp [oRkRx_50]) rfl 251 rfl
  have f49 : v49 = (.pointer (some ⟨Vc, 2, none⟩)) := f49
  subst f49
  have h49 := tmp_eval t49
  have hc := q.cell E.cc
  exact yld_run (x' := x) rfl (by simp [oRkRx_50, execOp, go_sem, t49, hc]) (Q.refl x) rfl
theorem yRkRx_51 {a0 : Act} {w : World} {Va Vb Vc Vd Vu Vv Vp ga gb gc gd gu gv gs os n c bm ii kk mm sa sb sc sd su sv s0 : Nat} (E : EnvRkRx a0 w Va Vb Vc Vd Vu Vv Vp ga gb gc gd gu gv gs os n c bm ii kk mm sa sb sc sd su sv s0) {R : Exit → Act → World → Prop} {a : Act} {x : World} (q : Q w x) (oth : ∀ j, j ∉ sRkRx → a.tmps[j]? = a0.tmps[j]?) (dep : ∀ ed ∈ oRkRx_51.after, Region.binds .any ed = true → ∀ t', sRkRx[ed.on]? = some t' → ∃ v, a.tmps[t']? = some v ∧ specAt (spRkRx Va Vb Vc Vd Vu Vv Vp ga gb gc gd gu gv gs os n c bm ii kk mm sa sb sc sd su sv s0) ed.on v x) : Yld Try.prog R oRkRx_51 a x 253 (specAt (spRkRx Va Vb Vc Vd Vu Vv Vp ga gb gc gd gu gv gs os n c bm ii kk mm sa sb sc sd su sv s0) 51) := by
  exact yld_move ((oth 31 (by decide)).trans E.h31) rfl
theorem yRkRx_52 {a0 : Act} {w : World} {Va Vb Vc Vd Vu Vv Vp ga gb gc gd gu gv gs os n c bm ii kk mm sa sb sc sd su sv s0 : Nat} (E : EnvRkRx a0 w Va Vb Vc Vd Vu Vv Vp ga gb gc gd gu gv gs os n c bm ii kk mm sa sb sc sd su sv s0) {R : Exit → Act → World → Prop} {a : Act} {x : World} (q : Q w x) (oth : ∀ j, j ∉ sRkRx → a.tmps[j]? = a0.tmps[j]?) (dep : ∀ ed ∈ oRkRx_52.after, Region.binds .any ed = true → ∀ t', sRkRx[ed.on]? = some t' → ∃ v, a.tmps[t']? = some v ∧ specAt (spRkRx Va Vb Vc Vd Vu Vv Vp ga gb gc gd gu gv gs os n c bm ii kk mm sa sb sc sd su sv s0) ed.on v x) : Yld Try.prog R oRkRx_52 a x 254 (specAt (spRkRx Va Vb Vc Vd Vu Vv Vp ga gb gc gd gu gv gs os n c bm ii kk mm sa sb sc sd su sv s0) 52) := by
  obtain ⟨v50, t50, f50⟩ := dep ⟨50, .data⟩ (by simp [oRkRx_52]) rfl 252 rfl
  have f50 : v50 = (.slice (some ⟨gc, 0, none⟩) n n) := f50
  subst f50
  obtain ⟨v51, t51, f51⟩ := dep ⟨51, .data⟩ (by simp [oRkRx_52]) rfl 253 rfl
  have f51 : v51 = (.int .i64 (ii : Int)) := f51
  subst f51
  exact yld_run (x' := x) rfl (run_ixr (Lw := n) (cap := n) (tmp_eval t50) (tmp_eval t51) E.hi) (Q.refl x) rfl
theorem yRkRx_53 {a0 : Act} {w : World} {Va Vb Vc Vd Vu Vv Vp ga gb gc gd gu gv gs os n c bm ii kk mm sa sb sc sd su sv s0 : Nat} (E : EnvRkRx a0 w Va Vb Vc Vd Vu Vv Vp ga gb gc gd gu gv gs os n c bm ii kk mm sa sb sc sd su sv s0) {R : Exit → Act → World → Prop} {a : Act} {x : World} (q : Q w x) (oth : ∀ j, j ∉ sRkRx → a.tmps[j]? = a0.tmps[j]?) (dep : ∀ ed ∈ oRkRx_53.after, Region.binds .any ed = true → ∀ t', sRkRx[ed.on]? = some t' → ∃ v, a.tmps[t']? = some v ∧ specAt (spRkRx Va Vb Vc Vd Vu Vv Vp ga gb gc gd gu gv gs os n c bm ii kk mm sa sb sc sd su sv s0) ed.on v x) : Yld Try.prog R oRkRx_53 a x 255 (specAt (spRkRx Va Vb Vc Vd Vu Vv Vp ga gb gc gd gu gv gs os n c bm ii kk mm sa sb sc sd su sv s0) 53) := by
  obtain ⟨v52, t52, f52⟩ := dep ⟨52, .data⟩ (by simp [oRkRx_53]) rfl 254 rfl
  have f52 : v52 = (.pointer (some ⟨gc, ii, none⟩)) := f52
  subst f52
  have h52 := tmp_eval t52
  have hc := q.cell E.kc
  exact yld_run (x' := x) rfl (by simp [oRkRx_53, execOp, go_sem, t52, hc]) (Q.refl x) rfl
theorem yRkRx_54 {a0 : Act} {w : World} {Va Vb Vc Vd Vu Vv Vp ga gb gc gd gu gv gs os n c bm ii kk mm sa sb sc sd su sv s0 : Nat} (E : EnvRkRx a0 w Va Vb Vc Vd Vu Vv Vp ga gb gc gd gu gv gs os n c bm ii kk mm sa sb sc sd su sv s0) {R : Exit → Act → World → Prop} {a : Act} {x : World} (q : Q w x) (oth : ∀ j, j ∉ sRkRx → a.tmps[j]? = a0.tmps[j]?) (dep : ∀ ed ∈ oRkRx_54.after, Region.binds .any ed = true → ∀ t', sRkRx[ed.on]? = some t' → ∃ v, a.tmps[t']? = some v ∧ specAt (spRkRx Va Vb Vc Vd Vu Vv Vp ga gb gc gd gu gv gs os n c bm ii kk mm sa sb sc sd su sv s0) ed.on v x) : Yld Try.prog R oRkRx_54 a x 256 (specAt (spRkRx Va Vb Vc Vd Vu Vv Vp ga gb gc gd gu gv gs os n c bm ii kk mm sa sb sc sd su sv s0) 54) := by
  obtain ⟨v53, t53, f53⟩ := dep ⟨53, .data⟩ (by simp [oRkRx_54]) rfl 255 rfl
  have f53 : v53 = (.int .u32 (sc : Int)) := f53
  subst f53
  refine yld_call (enters_of Try.func15 (by kernel_rfl) rfl) (vs := #[.int .u32 (sc : Int)]) (by simp [tmp_eval t53]) ((kkey_any sc E.bc x).mono ?_)
  rintro u x' ⟨rfl, rfl⟩
  exact ⟨_, rfl, Q.refl _, rfl⟩
theorem yRkRx_55 {a0 : Act} {w : World} {Va Vb Vc Vd Vu Vv Vp ga gb gc gd gu gv gs os n c bm ii kk mm sa sb sc sd su sv s0 : Nat} (E : EnvRkRx a0 w Va Vb Vc Vd Vu Vv Vp ga gb gc gd gu gv gs os n c bm ii kk mm sa sb sc sd su sv s0) {R : Exit → Act → World → Prop} {a : Act} {x : World} (q : Q w x) (oth : ∀ j, j ∉ sRkRx → a.tmps[j]? = a0.tmps[j]?) (dep : ∀ ed ∈ oRkRx_55.after, Region.binds .any ed = true → ∀ t', sRkRx[ed.on]? = some t' → ∃ v, a.tmps[t']? = some v ∧ specAt (spRkRx Va Vb Vc Vd Vu Vv Vp ga gb gc gd gu gv gs os n c bm ii kk mm sa sb sc sd su sv s0) ed.on v x) : Yld Try.prog R oRkRx_55 a x 257 (specAt (spRkRx Va Vb Vc Vd Vu Vv Vp ga gb gc gd gu gv gs os n c bm ii kk mm sa sb sc sd su sv s0) 55) := by
  have hs := (oth 25 (by decide)).trans E.h25
  exact yld_run (x' := x) rfl (by simp [oRkRx_55, execOp, go_sem, hs, ptrV]) (Q.refl x) rfl
theorem yRkRx_56 {a0 : Act} {w : World} {Va Vb Vc Vd Vu Vv Vp ga gb gc gd gu gv gs os n c bm ii kk mm sa sb sc sd su sv s0 : Nat} (E : EnvRkRx a0 w Va Vb Vc Vd Vu Vv Vp ga gb gc gd gu gv gs os n c bm ii kk mm sa sb sc sd su sv s0) {R : Exit → Act → World → Prop} {a : Act} {x : World} (q : Q w x) (oth : ∀ j, j ∉ sRkRx → a.tmps[j]? = a0.tmps[j]?) (dep : ∀ ed ∈ oRkRx_56.after, Region.binds .any ed = true → ∀ t', sRkRx[ed.on]? = some t' → ∃ v, a.tmps[t']? = some v ∧ specAt (spRkRx Va Vb Vc Vd Vu Vv Vp ga gb gc gd gu gv gs os n c bm ii kk mm sa sb sc sd su sv s0) ed.on v x) : Yld Try.prog R oRkRx_56 a x 258 (specAt (spRkRx Va Vb Vc Vd Vu Vv Vp ga gb gc gd gu gv gs os n c bm ii kk mm sa sb sc sd su sv s0) 56) := by
  obtain ⟨v55, t55, f55⟩ := dep ⟨55, .data⟩ (by simp [oRkRx_56]) rfl 257 rfl
  have f55 : v55 = (.pointer (some ⟨Vd, 2, none⟩)) := f55
  subst f55
  have h55 := tmp_eval t55
  have hc := q.cell E.cd
  exact yld_run (x' := x) rfl (by simp [oRkRx_56, execOp, go_sem, t55, hc]) (Q.refl x) rfl
theorem yRkRx_57 {a0 : Act} {w : World} {Va Vb Vc Vd Vu Vv Vp ga gb gc gd gu gv gs os n c bm ii kk mm sa sb sc sd su sv s0 : Nat} (E : EnvRkRx a0 w Va Vb Vc Vd Vu Vv Vp ga gb gc gd gu gv gs os n c bm ii kk mm sa sb sc sd su sv s0) {R : Exit → Act → World → Prop} {a : Act} {x : World} (q : Q w x) (oth : ∀ j, j ∉ sRkRx → a.tmps[j]? = a0.tmps[j]?) (dep : ∀ ed ∈ oRkRx_57.after, Region.binds .any ed = true → ∀ t', sRkRx[ed.on]? = some t' → ∃ v, a.tmps[t']? = some v ∧ specAt (spRkRx Va Vb Vc Vd Vu Vv Vp ga gb gc gd gu gv gs os n c bm ii kk mm sa sb sc sd su sv s0) ed.on v x) : Yld Try.prog R oRkRx_57 a x 259 (specAt (spRkRx Va Vb Vc Vd Vu Vv Vp ga gb gc gd gu gv gs os n c bm ii kk mm sa sb sc sd su sv s0) 57) := by
  exact yld_move ((oth 31 (by decide)).trans E.h31) rfl
theorem yRkRx_58 {a0 : Act} {w : World} {Va Vb Vc Vd Vu Vv Vp ga gb gc gd gu gv gs os n c bm ii kk mm sa sb sc sd su sv s0 : Nat} (E : EnvRkRx a0 w Va Vb Vc Vd Vu Vv Vp ga gb gc gd gu gv gs os n c bm ii kk mm sa sb sc sd su sv s0) {R : Exit → Act → World → Prop} {a : Act} {x : World} (q : Q w x) (oth : ∀ j, j ∉ sRkRx → a.tmps[j]? = a0.tmps[j]?) (dep : ∀ ed ∈ oRkRx_58.after, Region.binds .any ed = true → ∀ t', sRkRx[ed.on]? = some t' → ∃ v, a.tmps[t']? = some v ∧ specAt (spRkRx Va Vb Vc Vd Vu Vv Vp ga gb gc gd gu gv gs os n c bm ii kk mm sa sb sc sd su sv s0) ed.on v x) : Yld Try.prog R oRkRx_58 a x 260 (specAt (spRkRx Va Vb Vc Vd Vu Vv Vp ga gb gc gd gu gv gs os n c bm ii kk mm sa sb sc sd su sv s0) 58) := by
  obtain ⟨v56, t56, f56⟩ := dep ⟨56, .data⟩ (by simp [oRkRx_58]) rfl 258 rfl
  have f56 : v56 = (.slice (some ⟨gd, 0, none⟩) n n) := f56
  subst f56
  obtain ⟨v57, t57, f57⟩ := dep ⟨57, .data⟩ (by simp [oRkRx_58]) rfl 259 rfl
  have f57 : v57 = (.int .i64 (ii : Int)) := f57
  subst f57
  exact yld_run (x' := x) rfl (run_ixr (Lw := n) (cap := n) (tmp_eval t56) (tmp_eval t57) E.hi) (Q.refl x) rfl
theorem yRkRx_59 {a0 : Act} {w : World} {Va Vb Vc Vd Vu Vv Vp ga gb gc gd gu gv gs os n c bm ii kk mm sa sb sc sd su sv s0 : Nat} (E : EnvRkRx a0 w Va Vb Vc Vd Vu Vv Vp ga gb gc gd gu gv gs os n c bm ii kk mm sa sb sc sd su sv s0) {R : Exit → Act → World → Prop} {a : Act} {x : World} (q : Q w x) (oth : ∀ j, j ∉ sRkRx → a.tmps[j]? = a0.tmps[j]?) (dep : ∀ ed ∈ oRkRx_59.after, Region.binds .any ed = true → ∀ t', sRkRx[ed.on]? = some t' → ∃ v, a.tmps[t']? = some v ∧ specAt (spRkRx Va Vb Vc Vd Vu Vv Vp ga gb gc gd gu gv gs os n c bm ii kk mm sa sb sc sd su sv s0) ed.on v x) : Yld Try.prog R oRkRx_59 a x 261 (specAt (spRkRx Va Vb Vc Vd Vu Vv Vp ga gb gc gd gu gv gs os n c bm ii kk mm sa sb sc sd su sv s0) 59) := by
  obtain ⟨v58, t58, f58⟩ := dep ⟨58, .data⟩ (by simp [oRkRx_59]) rfl 260 rfl
  have f58 : v58 = (.pointer (some ⟨gd, ii, none⟩)) := f58
  subst f58
  have h58 := tmp_eval t58
  have hc := q.cell E.kd
  exact yld_run (x' := x) rfl (by simp [oRkRx_59, execOp, go_sem, t58, hc]) (Q.refl x) rfl
theorem yRkRx_60 {a0 : Act} {w : World} {Va Vb Vc Vd Vu Vv Vp ga gb gc gd gu gv gs os n c bm ii kk mm sa sb sc sd su sv s0 : Nat} (E : EnvRkRx a0 w Va Vb Vc Vd Vu Vv Vp ga gb gc gd gu gv gs os n c bm ii kk mm sa sb sc sd su sv s0) {R : Exit → Act → World → Prop} {a : Act} {x : World} (q : Q w x) (oth : ∀ j, j ∉ sRkRx → a.tmps[j]? = a0.tmps[j]?) (dep : ∀ ed ∈ oRkRx_60.after, Region.binds .any ed = true → ∀ t', sRkRx[ed.on]? = some t' → ∃ v, a.tmps[t']? = some v ∧ specAt (spRkRx Va Vb Vc Vd Vu Vv Vp ga gb gc gd gu gv gs os n c bm ii kk mm sa sb sc sd su sv s0) ed.on v x) : Yld Try.prog R oRkRx_60 a x 262 (specAt (spRkRx Va Vb Vc Vd Vu Vv Vp ga gb gc gd gu gv gs os n c bm ii kk mm sa sb sc sd su sv s0) 60) := by
  obtain ⟨v59, t59, f59⟩ := dep ⟨59, .data⟩ (by simp [oRkRx_60]) rfl 261 rfl
  have f59 : v59 = (.int .u32 (sd : Int)) := f59
  subst f59
  refine yld_call (enters_of Try.func15 (by kernel_rfl) rfl) (vs := #[.int .u32 (sd : Int)]) (by simp [tmp_eval t59]) ((kkey_any sd E.bd x).mono ?_)
  rintro u x' ⟨rfl, rfl⟩
  exact ⟨_, rfl, Q.refl _, rfl⟩
theorem yRkRx_61 {a0 : Act} {w : World} {Va Vb Vc Vd Vu Vv Vp ga gb gc gd gu gv gs os n c bm ii kk mm sa sb sc sd su sv s0 : Nat} (E : EnvRkRx a0 w Va Vb Vc Vd Vu Vv Vp ga gb gc gd gu gv gs os n c bm ii kk mm sa sb sc sd su sv s0) {R : Exit → Act → World → Prop} {a : Act} {x : World} (q : Q w x) (oth : ∀ j, j ∉ sRkRx → a.tmps[j]? = a0.tmps[j]?) (dep : ∀ ed ∈ oRkRx_61.after, Region.binds .any ed = true → ∀ t', sRkRx[ed.on]? = some t' → ∃ v, a.tmps[t']? = some v ∧ specAt (spRkRx Va Vb Vc Vd Vu Vv Vp ga gb gc gd gu gv gs os n c bm ii kk mm sa sb sc sd su sv s0) ed.on v x) : Yld Try.prog R oRkRx_61 a x 263 (specAt (spRkRx Va Vb Vc Vd Vu Vv Vp ga gb gc gd gu gv gs os n c bm ii kk mm sa sb sc sd su sv s0) 61) := by
  obtain ⟨v54, t54, f54⟩ := dep ⟨54, .data⟩ (by simp [oRkRx_61]) rfl 256 rfl
  have f54 : v54 = (.int .u32 ((keyN sc : Nat) : Int)) := f54
  subst f54
  obtain ⟨v60, t60, f60⟩ := dep ⟨60, .data⟩ (by simp [oRkRx_61]) rfl 262 rfl
  have f60 : v60 = (.int .u32 ((keyN sd : Nat) : Int)) := f60
  subst f60
  have h54 := tmp_eval t54
  have h60 := tmp_eval t60
  have hf := E.qcd
  exact yld_run (x' := x) rfl (by simp [oRkRx_61, execOp, go_sem, t54, t60, hf]) (Q.refl x) rfl
theorem yRkRx_62 {a0 : Act} {w : World} {Va Vb Vc Vd Vu Vv Vp ga gb gc gd gu gv gs os n c bm ii kk mm sa sb sc sd su sv s0 : Nat} (E : EnvRkRx a0 w Va Vb Vc Vd Vu Vv Vp ga gb gc gd gu gv gs os n c bm ii kk mm sa sb sc sd su sv s0) {R : Exit → Act → World → Prop} {a : Act} {x : World} (q : Q w x) (oth : ∀ j, j ∉ sRkRx → a.tmps[j]? = a0.tmps[j]?) (dep : ∀ ed ∈ oRkRx_62.after, Region.binds .any ed = true → ∀ t', sRkRx[ed.on]? = some t' → ∃ v, a.tmps[t']? = some v ∧ specAt (spRkRx Va Vb Vc Vd Vu Vv Vp ga gb gc gd gu gv gs os n c bm ii kk mm sa sb sc sd su sv s0) ed.on v x) : Yld Try.prog R oRkRx_62 a x 264 (specAt (spRkRx Va Vb Vc Vd Vu Vv Vp ga gb gc gd gu gv gs os n c bm ii kk mm sa sb sc sd su sv s0) 62) := by
  obtain ⟨v48, t48, f48⟩ := dep ⟨48, .data⟩ (by simp [oRkRx_62]) rfl 250 rfl
  have f48 : v48 = (.bool false) := f48
  subst f48
  obtain ⟨v61, t61, f61⟩ := dep ⟨61, .data⟩ (by simp [oRkRx_62]) rfl 263 rfl
  have f61 : v61 = (.bool false) := f61
  subst f61
  have h48 := tmp_eval t48
  have h61 := tmp_eval t61
  exact yld_run (x' := x) rfl (by simp [oRkRx_62, execOp, go_sem, t48, t61]) (Q.refl x) rfl
theorem yRkRx_63 {a0 : Act} {w : World} {Va Vb Vc Vd Vu Vv Vp ga gb gc gd gu gv gs os n c bm ii kk mm sa sb sc sd su sv s0 : Nat} (E : EnvRkRx a0 w Va Vb Vc Vd Vu Vv Vp ga gb gc gd gu gv gs os n c bm ii kk mm sa sb sc sd su sv s0) {R : Exit → Act → World → Prop} {a : Act} {x : World} (q : Q w x) (oth : ∀ j, j ∉ sRkRx → a.tmps[j]? = a0.tmps[j]?) (dep : ∀ ed ∈ oRkRx_63.after, Region.binds .any ed = true → ∀ t', sRkRx[ed.on]? = some t' → ∃ v, a.tmps[t']? = some v ∧ specAt (spRkRx Va Vb Vc Vd Vu Vv Vp ga gb gc gd gu gv gs os n c bm ii kk mm sa sb sc sd su sv s0) ed.on v x) : Yld Try.prog R oRkRx_63 a x 265 (specAt (spRkRx Va Vb Vc Vd Vu Vv Vp ga gb gc gd gu gv gs os n c bm ii kk mm sa sb sc sd su sv s0) 63) := by
  obtain ⟨v62, t62, f62⟩ := dep ⟨62, .data⟩ (by simp [oRkRx_63]) rfl 264 rfl
  have f62 : v62 = (.bool false) := f62
  subst f62
  exact yld_move t62 rfl
theorem yRkRx_64 {a0 : Act} {w : World} {Va Vb Vc Vd Vu Vv Vp ga gb gc gd gu gv gs os n c bm ii kk mm sa sb sc sd su sv s0 : Nat} (E : EnvRkRx a0 w Va Vb Vc Vd Vu Vv Vp ga gb gc gd gu gv gs os n c bm ii kk mm sa sb sc sd su sv s0) {R : Exit → Act → World → Prop} {a : Act} {x : World} (q : Q w x) (oth : ∀ j, j ∉ sRkRx → a.tmps[j]? = a0.tmps[j]?) (dep : ∀ ed ∈ oRkRx_64.after, Region.binds .any ed = true → ∀ t', sRkRx[ed.on]? = some t' → ∃ v, a.tmps[t']? = some v ∧ specAt (spRkRx Va Vb Vc Vd Vu Vv Vp ga gb gc gd gu gv gs os n c bm ii kk mm sa sb sc sd su sv s0) ed.on v x) : Yld Try.prog R oRkRx_64 a x 266 (specAt (spRkRx Va Vb Vc Vd Vu Vv Vp ga gb gc gd gu gv gs os n c bm ii kk mm sa sb sc sd su sv s0) 64) := by
  have hs := (oth 27 (by decide)).trans E.h27
  exact yld_run (x' := x) rfl (by simp [oRkRx_64, execOp, go_sem, hs, ptrV]) (Q.refl x) rfl
theorem yRkRx_65 {a0 : Act} {w : World} {Va Vb Vc Vd Vu Vv Vp ga gb gc gd gu gv gs os n c bm ii kk mm sa sb sc sd su sv s0 : Nat} (E : EnvRkRx a0 w Va Vb Vc Vd Vu Vv Vp ga gb gc gd gu gv gs os n c bm ii kk mm sa sb sc sd su sv s0) {R : Exit → Act → World → Prop} {a : Act} {x : World} (q : Q w x) (oth : ∀ j, j ∉ sRkRx → a.tmps[j]? = a0.tmps[j]?) (dep : ∀ ed ∈ oRkRx_65.after, Region.binds .any ed = true → ∀ t', sRkRx[ed.on]? = some t' → ∃ v, a.tmps[t']? = some v ∧ specAt (spRkRx Va Vb Vc Vd Vu Vv Vp ga gb gc gd gu gv gs os n c bm ii kk mm sa sb sc sd su sv s0) ed.on v x) : Yld Try.prog R oRkRx_65 a x 267 (specAt (spRkRx Va Vb Vc Vd Vu Vv Vp ga gb gc gd gu gv gs os n c bm ii kk mm sa sb sc sd su sv s0) 65) := by
  obtain ⟨v64, t64, f64⟩ := dep ⟨64, .data⟩ (by simp [oRkRx_65]) rfl 266 rfl
  have f64 : v64 = (.pointer (some ⟨Vu, 2, none⟩)) := f64
  subst f64
  have h64 := tmp_eval t64
  have hc := q.cell E.cu
  exact yld_run (x' := x) rfl (by simp [oRkRx_65, execOp, go_sem, t64, hc]) (Q.refl x) rfl
theorem yRkRx_66 {a0 : Act} {w : World} {Va Vb Vc Vd Vu Vv Vp ga gb gc gd gu gv gs os n c bm ii kk mm sa sb sc sd su sv s0 : Nat} (E : EnvRkRx a0 w Va Vb Vc Vd Vu Vv Vp ga gb gc gd gu gv gs os n c bm ii kk mm sa sb sc sd su sv s0) {R : Exit → Act → World → Prop} {a : Act} {x : World} (q : Q w x) (oth : ∀ j, j ∉ sRkRx → a.tmps[j]? = a0.tmps[j]?) (dep : ∀ ed ∈ oRkRx_66.after, Region.binds .any ed = true → ∀ t', sRkRx[ed.on]? = some t' → ∃ v, a.tmps[t']? = some v ∧ specAt (spRkRx Va Vb Vc Vd Vu Vv Vp ga gb gc gd gu gv gs os n c bm ii kk mm sa sb sc sd su sv s0) ed.on v x) : Yld Try.prog R oRkRx_66 a x 268 (specAt (spRkRx Va Vb Vc Vd Vu Vv Vp ga gb gc gd gu gv gs os n c bm ii kk mm sa sb sc sd su sv s0) 66) := by
  exact yld_move ((oth 31 (by decide)).trans E.h31) rfl
theorem yRkRx_67 {a0 : Act} {w : World} {Va Vb Vc Vd Vu Vv Vp ga gb gc gd gu gv gs os n c bm ii kk mm sa sb sc sd su sv s0 : Nat} (E : EnvRkRx a0 w Va Vb Vc Vd Vu Vv Vp ga gb gc gd gu gv gs os n c bm ii kk mm sa sb sc sd su sv s0) {R : Exit → Act → World → Prop} {a : Act} {x : World} (q : Q w x) (oth : ∀ j, j ∉ sRkRx → a.tmps[j]? = a0.tmps[j]?) (dep : ∀ ed ∈ oRkRx_67.after, Region.binds .any ed = true → ∀ t', sRkRx[ed.on]? = some t' → ∃ v, a.tmps[t']? = some v ∧ specAt (spRkRx Va Vb Vc Vd Vu Vv Vp ga gb gc gd gu gv gs os n c bm ii kk mm sa sb sc sd su sv s0) ed.on v x) : Yld Try.prog R oRkRx_67 a x 269 (specAt (spRkRx Va Vb Vc Vd Vu Vv Vp ga gb gc gd gu gv gs os n c bm ii kk mm sa sb sc sd su sv s0) 67) := by
  obtain ⟨v65, t65, f65⟩ := dep ⟨65, .data⟩ (by simp [oRkRx_67]) rfl 267 rfl
  have f65 : v65 = (.slice (some ⟨gu, 0, none⟩) n n) := f65
  subst f65
  obtain ⟨v66, t66, f66⟩ := dep ⟨66, .data⟩ (by simp [oRkRx_67]) rfl 268 rfl
  have f66 : v66 = (.int .i64 (ii : Int)) := f66
  subst f66
  exact yld_run (x' := x) rfl (run_ixr (Lw := n) (cap := n) (tmp_eval t65) (tmp_eval t66) E.hi) (Q.refl x) rfl
theorem yRkRx_68 {a0 : Act} {w : World} {Va Vb Vc Vd Vu Vv Vp ga gb gc gd gu gv gs os n c bm ii kk mm sa sb sc sd su sv s0 : Nat} (E : EnvRkRx a0 w Va Vb Vc Vd Vu Vv Vp ga gb gc gd gu gv gs os n c bm ii kk mm sa sb sc sd su sv s0) {R : Exit → Act → World → Prop} {a : Act} {x : World} (q : Q w x) (oth : ∀ j, j ∉ sRkRx → a.tmps[j]? = a0.tmps[j]?) (dep : ∀ ed ∈ oRkRx_68.after, Region.binds .any ed = true → ∀ t', sRkRx[ed.on]? = some t' → ∃ v, a.tmps[t']? = some v ∧ specAt (spRkRx Va Vb Vc Vd Vu Vv Vp ga gb gc gd gu gv gs os n c bm ii kk mm sa sb sc sd su sv s0) ed.on v x) : Yld Try.prog R oRkRx_68 a x 270 (specAt (spRkRx Va Vb Vc Vd Vu Vv Vp ga gb gc gd gu gv gs os n c bm ii kk mm sa sb sc sd su sv s0) 68) := by
  obtain ⟨v67, t67, f67⟩ := dep ⟨67, .data⟩ (by simp [oRkRx_68]) rfl 269 rfl
  have f67 : v67 = (.pointer (some ⟨gu, ii, none⟩)) := f67
  subst f67
  have h67 := tmp_eval t67
  have hc := q.cell E.ku
  exact yld_run (x' := x) rfl (by simp [oRkRx_68, execOp, go_sem, t67, hc]) (Q.refl x) rfl
theorem yRkRx_69 {a0 : Act} {w : World} {Va Vb Vc Vd Vu Vv Vp ga gb gc gd gu gv gs os n c bm ii kk mm sa sb sc sd su sv s0 : Nat} (E : EnvRkRx a0 w Va Vb Vc Vd Vu Vv Vp ga gb gc gd gu gv gs os n c bm ii kk mm sa sb sc sd su sv s0) {R : Exit → Act → World → Prop} {a : Act} {x : World} (q : Q w x) (oth : ∀ j, j ∉ sRkRx → a.tmps[j]? = a0.tmps[j]?) (dep : ∀ ed ∈ oRkRx_69.after, Region.binds .any ed = true → ∀ t', sRkRx[ed.on]? = some t' → ∃ v, a.tmps[t']? = some v ∧ specAt (spRkRx Va Vb Vc Vd Vu Vv Vp ga gb gc gd gu gv gs os n c bm ii kk mm sa sb sc sd su sv s0) ed.on v x) : Yld Try.prog R oRkRx_69 a x 271 (specAt (spRkRx Va Vb Vc Vd Vu Vv Vp ga gb gc gd gu gv gs os n c bm ii kk mm sa sb sc sd su sv s0) 69) := by
  obtain ⟨v68, t68, f68⟩ := dep ⟨68, .data⟩ (by simp [oRkRx_69]) rfl 270 rfl
  have f68 : v68 = (.int .u32 (su : Int)) := f68
  subst f68
  refine yld_call (enters_of Try.func15 (by kernel_rfl) rfl) (vs := #[.int .u32 (su : Int)]) (by simp [tmp_eval t68]) ((kkey_any su E.bu x).mono ?_)
  rintro u x' ⟨rfl, rfl⟩
  exact ⟨_, rfl, Q.refl _, rfl⟩
theorem yRkRx_70 {a0 : Act} {w : World} {Va Vb Vc Vd Vu Vv Vp ga gb gc gd gu gv gs os n c bm ii kk mm sa sb sc sd su sv s0 : Nat} (E : EnvRkRx a0 w Va Vb Vc Vd Vu Vv Vp ga gb gc gd gu gv gs os n c bm ii kk mm sa sb sc sd su sv s0) {R : Exit → Act → World → Prop} {a : Act} {x : World} (q : Q w x) (oth : ∀ j, j ∉ sRkRx → a.tmps[j]? = a0.tmps[j]?) (dep : ∀ ed ∈ oRkRx_70.after, Region.binds .any ed = true → ∀ t', sRkRx[ed.on]? = some t' → ∃ v, a.tmps[t']? = some v ∧ specAt (spRkRx Va Vb Vc Vd Vu Vv Vp ga gb gc gd gu gv gs os n c bm ii kk mm sa sb sc sd su sv s0) ed.on v x) : Yld Try.prog R oRkRx_70 a x 272 (specAt (spRkRx Va Vb Vc Vd Vu Vv Vp ga gb gc gd gu gv gs os n c bm ii kk mm sa sb sc sd su sv s0) 70) := by
  have hs := (oth 7 (by decide)).trans E.h7
  exact yld_run (x' := x) rfl (by simp [oRkRx_70, execOp, go_sem, hs, ptrV]) (Q.refl x) rfl
theorem yRkRx_71 {a0 : Act} {w : World} {Va Vb Vc Vd Vu Vv Vp ga gb gc gd gu gv gs os n c bm ii kk mm sa sb sc sd su sv s0 : Nat} (E : EnvRkRx a0 w Va Vb Vc Vd Vu Vv Vp ga gb gc gd gu gv gs os n c bm ii kk mm sa sb sc sd su sv s0) {R : Exit → Act → World → Prop} {a : Act} {x : World} (q : Q w x) (oth : ∀ j, j ∉ sRkRx → a.tmps[j]? = a0.tmps[j]?) (dep : ∀ ed ∈ oRkRx_71.after, Region.binds .any ed = true → ∀ t', sRkRx[ed.on]? = some t' → ∃ v, a.tmps[t']? = some v ∧ specAt (spRkRx Va Vb Vc Vd Vu Vv Vp ga gb gc gd gu gv gs os n c bm ii kk mm sa sb sc sd su sv s0) ed.on v x) : Yld Try.prog R oRkRx_71 a x 273 (specAt (spRkRx Va Vb Vc Vd Vu Vv Vp ga gb gc gd gu gv gs os n c bm ii kk mm sa sb sc sd su sv s0) 71) := by
  obtain ⟨v70, t70, f70⟩ := dep ⟨70, .data⟩ (by simp [oRkRx_71]) rfl 272 rfl
  have f70 : v70 = (.pointer (some ⟨Vp, 2, none⟩)) := f70
  subst f70
  have h70 := tmp_eval t70
  have hc := q.cell E.cp
  exact yld_run (x' := x) rfl (by simp [oRkRx_71, execOp, go_sem, t70, hc]) (Q.refl x) rfl
theorem yRkRx_72 {a0 : Act} {w : World} {Va Vb Vc Vd Vu Vv Vp ga gb gc gd gu gv gs os n c bm ii kk mm sa sb sc sd su sv s0 : Nat} (E : EnvRkRx a0 w Va Vb Vc Vd Vu Vv Vp ga gb gc gd gu gv gs os n c bm ii kk mm sa sb sc sd su sv s0) {R : Exit → Act → World → Prop} {a : Act} {x : World} (q : Q w x) (oth : ∀ j, j ∉ sRkRx → a.tmps[j]? = a0.tmps[j]?) (dep : ∀ ed ∈ oRkRx_72.after, Region.binds .any ed = true → ∀ t', sRkRx[ed.on]? = some t' → ∃ v, a.tmps[t']? = some v ∧ specAt (spRkRx Va Vb Vc Vd Vu Vv Vp ga gb gc gd gu gv gs os n c bm ii kk mm sa sb sc sd su sv s0) ed.on v x) : Yld Try.prog R oRkRx_72 a x 274 (specAt (spRkRx Va Vb Vc Vd Vu Vv Vp ga gb gc gd gu gv gs os n c bm ii kk mm sa sb sc sd su sv s0) 72) := by
  exact yld_move ((oth 31 (by decide)).trans E.h31) rfl
theorem yRkRx_73 {a0 : Act} {w : World} {Va Vb Vc Vd Vu Vv Vp ga gb gc gd gu gv gs os n c bm ii kk mm sa sb sc sd su sv s0 : Nat} (E : EnvRkRx a0 w Va Vb Vc Vd Vu Vv Vp ga gb gc gd gu gv gs os n c bm ii kk mm sa sb sc sd su sv s0) {R : Exit → Act → World → Prop} {a : Act} {x : World} (q : Q w x) (oth : ∀ j, j ∉ sRkRx → a.tmps[j]? = a0.tmps[j]?) (dep : ∀ ed ∈ oRkRx_73.after, Region.binds .any ed = true → ∀ t', sRkRx[ed.on]? = some t' → ∃ v, a.tmps[t']? = some v ∧ specAt (spRkRx Va Vb Vc Vd Vu Vv Vp ga gb gc gd gu gv gs os n c bm ii kk mm sa sb sc sd su sv s0) ed.on v x) : Yld Try.prog R oRkRx_73 a x 275 (specAt (spRkRx Va Vb Vc Vd Vu Vv Vp ga gb gc gd gu gv gs os n c bm ii kk mm sa sb sc sd su sv s0) 73) := by
  obtain ⟨v71, t71, f71⟩ := dep ⟨71, .data⟩ (by simp [oRkRx_73]) rfl 273 rfl
  have f71 : v71 = (.slice (some ⟨gs, os, none⟩) n c) := f71
  subst f71
  obtain ⟨v72, t72, f72⟩ := dep ⟨72, .data⟩ (by simp [oRkRx_73]) rfl 274 rfl
  have f72 : v72 = (.int .i64 (ii : Int)) := f72
  subst f72
  exact yld_run (x' := x) rfl (run_ixo (Lw := n) (cap := c) (tmp_eval t71) (tmp_eval t72) E.hi) (Q.refl x) rfl
theorem yRkRx_74 {a0 : Act} {w : World} {Va Vb Vc Vd Vu Vv Vp ga gb gc gd gu gv gs os n c bm ii kk mm sa sb sc sd su sv s0 : Nat} (E : EnvRkRx a0 w Va Vb Vc Vd Vu Vv Vp ga gb gc gd gu gv gs os n c bm ii kk mm sa sb sc sd su sv s0) {R : Exit → Act → World → Prop} {a : Act} {x : World} (q : Q w x) (oth : ∀ j, j ∉ sRkRx → a.tmps[j]? = a0.tmps[j]?) (dep : ∀ ed ∈ oRkRx_74.after, Region.binds .any ed = true → ∀ t', sRkRx[ed.on]? = some t' → ∃ v, a.tmps[t']? = some v ∧ specAt (spRkRx Va Vb Vc Vd Vu Vv Vp ga gb gc gd gu gv gs os n c bm ii kk mm sa sb sc sd su sv s0) ed.on v x) : Yld Try.prog R oRkRx_74 a x 276 (specAt (spRkRx Va Vb Vc Vd Vu Vv Vp ga gb gc gd gu gv gs os n c bm ii kk mm sa sb sc sd su sv s0) 74) := by
  obtain ⟨v73, t73, f73⟩ := dep ⟨73, .data⟩ (by simp [oRkRx_74]) rfl 275 rfl
  have f73 : v73 = (.pointer (some ⟨gs, os + ii, none⟩)) := f73
  subst f73
  have h73 := tmp_eval t73
  have hc := q.cell E.kp
  exact yld_run (x' := x) rfl (by simp [oRkRx_74, execOp, go_sem, t73, hc]) (Q.refl x) rfl
theorem yRkRx_75 {a0 : Act} {w : World} {Va Vb Vc Vd Vu Vv Vp ga gb gc gd gu gv gs os n c bm ii kk mm sa sb sc sd su sv s0 : Nat} (E : EnvRkRx a0 w Va Vb Vc Vd Vu Vv Vp ga gb gc gd gu gv gs os n c bm ii kk mm sa sb sc sd su sv s0) {R : Exit → Act → World → Prop} {a : Act} {x : World} (q : Q w x) (oth : ∀ j, j ∉ sRkRx → a.tmps[j]? = a0.tmps[j]?) (dep : ∀ ed ∈ oRkRx_75.after, Region.binds .any ed = true → ∀ t', sRkRx[ed.on]? = some t' → ∃ v, a.tmps[t']? = some v ∧ specAt (spRkRx Va Vb Vc Vd Vu Vv Vp ga gb gc gd gu gv gs os n c bm ii kk mm sa sb sc sd su sv s0) ed.on v x) : Yld Try.prog R oRkRx_75 a x 277 (specAt (spRkRx Va Vb Vc Vd Vu Vv Vp ga gb gc gd gu gv gs os n c bm ii kk mm sa sb sc sd su sv s0) 75) := by
  obtain ⟨v74, t74, f74⟩ := dep ⟨74, .data⟩ (by simp [oRkRx_75]) rfl 276 rfl
  have f74 : v74 = (.int .u32 (s0 : Int)) := f74
  subst f74
  refine yld_call (enters_of Try.func15 (by kernel_rfl) rfl) (vs := #[.int .u32 (s0 : Int)]) (by simp [tmp_eval t74]) ((kkey_any s0 E.bp x).mono ?_)
  rintro u x' ⟨rfl, rfl⟩
  exact ⟨_, rfl, Q.refl _, rfl⟩
theorem yRkRx_76 {a0 : Act} {w : World} {Va Vb Vc Vd Vu Vv Vp ga gb gc gd gu gv gs os n c bm ii kk mm sa sb sc sd su sv s0 : Nat} (E : EnvRkRx a0 w Va Vb Vc Vd Vu Vv Vp ga gb gc gd gu gv gs os n c bm ii kk mm sa sb sc sd su sv s0) {R : Exit → Act → World → Prop} {a : Act} {x : World} (q : Q w x) (oth : ∀ j, j ∉ sRkRx → a.tmps[j]? = a0.tmps[j]?) (dep : ∀ ed ∈ oRkRx_76.after, Region.binds .any ed = true → ∀ t', sRkRx[ed.on]? = some t' → ∃ v, a.tmps[t']? = some v ∧ specAt (spRkRx Va Vb Vc Vd Vu Vv Vp ga gb gc gd gu gv gs os n c bm ii kk mm sa sb sc sd su sv s0) ed.on v x) : Yld Try.prog R oRkRx_76 a x 278 (specAt (spRkRx Va Vb Vc Vd Vu Vv Vp ga gb gc gd gu gv gs os n c bm ii kk mm sa sb sc sd su sv s0) 76) := by
  obtain ⟨v69, t69, f69⟩ := dep ⟨69, .data⟩ (by simp [oRkRx_76]) rfl 271 rfl
  have f69 : v69 = (.int .u32 ((keyN su : Nat) : Int)) := f69
  subst f69
  obtain ⟨v75, t75, f75⟩ := dep ⟨75, .data⟩ (by simp [oRkRx_76]) rfl 277 rfl
  have f75 : v75 = (.int .u32 ((keyN s0 : Nat) : Int)) := f75
  subst f75
  have h69 := tmp_eval t69
  have h75 := tmp_eval t75
  have hf := E.qup
  exact yld_run (x' := x) rfl (by simp [oRkRx_76, execOp, go_sem, t69, t75, hf]) (Q.refl x) rfl
theorem yRkRx_77 {a0 : Act} {w : World} {Va Vb Vc Vd Vu Vv Vp ga gb gc gd gu gv gs os n c bm ii kk mm sa sb sc sd su sv s0 : Nat} (E : EnvRkRx a0 w Va Vb Vc Vd Vu Vv Vp ga gb gc gd gu gv gs os n c bm ii kk mm sa sb sc sd su sv s0) {R : Exit → Act → World → Prop} {a : Act} {x : World} (q : Q w x) (oth : ∀ j, j ∉ sRkRx → a.tmps[j]? = a0.tmps[j]?) (dep : ∀ ed ∈ oRkRx_77.after, Region.binds .any ed = true → ∀ t', sRkRx[ed.on]? = some t' → ∃ v, a.tmps[t']? = some v ∧ specAt (spRkRx Va Vb Vc Vd Vu Vv Vp ga gb gc gd gu gv gs os n c bm ii kk mm sa sb sc sd su sv s0) ed.on v x) : Yld Try.prog R oRkRx_77 a x 279 (specAt (spRkRx Va Vb Vc Vd Vu Vv Vp ga gb gc gd gu gv gs os n c bm ii kk mm sa sb sc sd su sv s0) 77) := by
  obtain ⟨v63, t63, f63⟩ := dep ⟨63, .data⟩ (by simp [oRkRx_77]) rfl 265 rfl
  have f63 : v63 = (.bool false) := f63
  subst f63
  obtain ⟨v76, t76, f76⟩ := dep ⟨76, .data⟩ (by simp [oRkRx_77]) rfl 278 rfl
  have f76 : v76 = (.bool false) := f76
  subst f76
  have h63 := tmp_eval t63
  have h76 := tmp_eval t76
  exact yld_run (x' := x) rfl (by simp [oRkRx_77, execOp, go_sem, t63, t76]) (Q.refl x) rfl
theorem yRkRx_78 {a0 : Act} {w : World} {Va Vb Vc Vd Vu Vv Vp ga gb gc gd gu gv gs os n c bm ii kk mm sa sb sc sd su sv s0 : Nat} (E : EnvRkRx a0 w Va Vb Vc Vd Vu Vv Vp ga gb gc gd gu gv gs os n c bm ii kk mm sa sb sc sd su sv s0) {R : Exit → Act → World → Prop} {a : Act} {x : World} (q : Q w x) (oth : ∀ j, j ∉ sRkRx → a.tmps[j]? = a0.tmps[j]?) (dep : ∀ ed ∈ oRkRx_78.after, Region.binds .any ed = true → ∀ t', sRkRx[ed.on]? = some t' → ∃ v, a.tmps[t']? = some v ∧ specAt (spRkRx Va Vb Vc Vd Vu Vv Vp ga gb gc gd gu gv gs os n c bm ii kk mm sa sb sc sd su sv s0) ed.on v x) : Yld Try.prog R oRkRx_78 a x 280 (specAt (spRkRx Va Vb Vc Vd Vu Vv Vp ga gb gc gd gu gv gs os n c bm ii kk mm sa sb sc sd su sv s0) 78) := by
  obtain ⟨v77, t77, f77⟩ := dep ⟨77, .data⟩ (by simp [oRkRx_78]) rfl 279 rfl
  have f77 : v77 = (.bool false) := f77
  subst f77
  exact yld_move t77 rfl
theorem yRkRx_79 {a0 : Act} {w : World} {Va Vb Vc Vd Vu Vv Vp ga gb gc gd gu gv gs os n c bm ii kk mm sa sb sc sd su sv s0 : Nat} (E : EnvRkRx a0 w Va Vb Vc Vd Vu Vv Vp ga gb gc gd gu gv gs os n c bm ii kk mm sa sb sc sd su sv s0) {R : Exit → Act → World → Prop} {a : Act} {x : World} (q : Q w x) (oth : ∀ j, j ∉ sRkRx → a.tmps[j]? = a0.tmps[j]?) (dep : ∀ ed ∈ oRkRx_79.after, Region.binds .any ed = true → ∀ t', sRkRx[ed.on]? = some t' → ∃ v, a.tmps[t']? = some v ∧ specAt (spRkRx Va Vb Vc Vd Vu Vv Vp ga gb gc gd gu gv gs os n c bm ii kk mm sa sb sc sd su sv s0) ed.on v x) : Yld Try.prog R oRkRx_79 a x 281 (specAt (spRkRx Va Vb Vc Vd Vu Vv Vp ga gb gc gd gu gv gs os n c bm ii kk mm sa sb sc sd su sv s0) 79) := by
  have hs := (oth 29 (by decide)).trans E.h29
  exact yld_run (x' := x) rfl (by simp [oRkRx_79, execOp, go_sem, hs, ptrV]) (Q.refl x) rfl
theorem yRkRx_80 {a0 : Act} {w : World} {Va Vb Vc Vd Vu Vv Vp ga gb gc gd gu gv gs os n c bm ii kk mm sa sb sc sd su sv s0 : Nat} (E : EnvRkRx a0 w Va Vb Vc Vd Vu Vv Vp ga gb gc gd gu gv gs os n c bm ii kk mm sa sb sc sd su sv s0) {R : Exit → Act → World → Prop} {a : Act} {x : World} (q : Q w x) (oth : ∀ j, j ∉ sRkRx → a.tmps[j]? = a0.tmps[j]?) (dep : ∀ ed ∈ oRkRx_80.after, Region.binds .any ed = true → ∀ t', sRkRx[ed.on]? = some t' → ∃ v, a.tmps[t']? = some v ∧ specAt (spRkRx Va Vb Vc Vd Vu Vv Vp ga gb gc gd gu gv gs os n c bm ii kk mm sa sb sc sd su sv s0) ed.on v x) : Yld Try.prog R oRkRx_80 a x 282 (specAt (spRkRx Va Vb Vc Vd Vu Vv Vp ga gb gc gd gu gv gs os n c bm ii kk mm sa sb sc sd su sv s0) 80) := by
  obtain ⟨v79, t79, f79⟩ := dep ⟨79, .data⟩ (by simp [oRkRx_80]) rfl 281 rfl
  have f79 : v79 = (.pointer (some ⟨Vv, 2, none⟩)) := f79
  subst f79
  have h79 := tmp_eval t79
  have hc := q.cell E.cv
  exact yld_run (x' := x) rfl (by simp [oRkRx_80, execOp, go_sem, t79, hc]) (Q.refl x) rfl
theorem yRkRx_81 {a0 : Act} {w : World} {Va Vb Vc Vd Vu Vv Vp ga gb gc gd gu gv gs os n c bm ii kk mm sa sb sc sd su sv s0 : Nat} (E : EnvRkRx a0 w Va Vb Vc Vd Vu Vv Vp ga gb gc gd gu gv gs os n c bm ii kk mm sa sb sc sd su sv s0) {R : Exit → Act → World → Prop} {a : Act} {x : World} (q : Q w x) (oth : ∀ j, j ∉ sRkRx → a.tmps[j]? = a0.tmps[j]?) (dep : ∀ ed ∈ oRkRx_81.after, Region.binds .any ed = true → ∀ t', sRkRx[ed.on]? = some t' → ∃ v, a.tmps[t']? = some v ∧ specAt (spRkRx Va Vb Vc Vd Vu Vv Vp ga gb gc gd gu gv gs os n c bm ii kk mm sa sb sc sd su sv s0) ed.on v x) : Yld Try.prog R oRkRx_81 a x 283 (specAt (spRkRx Va Vb Vc Vd Vu Vv Vp ga gb gc gd gu gv gs os n c bm ii kk mm sa sb sc sd su sv s0) 81) := by
  exact yld_move ((oth 31 (by decide)).trans E.h31) rfl
theorem yRkRx_82 {a0 : Act} {w : World} {Va Vb Vc Vd Vu Vv Vp ga gb gc gd gu gv gs os n c bm ii kk mm sa sb sc sd su sv s0 : Nat} (E : EnvRkRx a0 w Va Vb Vc Vd Vu Vv Vp ga gb gc gd gu gv gs os n c bm ii kk mm sa sb sc sd su sv s0) {R : Exit → Act → World → Prop} {a : Act} {x : World} (q : Q w x) (oth : ∀ j, j ∉ sRkRx → a.tmps[j]? = a0.tmps[j]?) (dep : ∀ ed ∈ oRkRx_82.after, Region.binds .any ed = true → ∀ t', sRkRx[ed.on]? = some t' → ∃ v, a.tmps[t']? = some v ∧ specAt (spRkRx Va Vb Vc Vd Vu Vv Vp ga gb gc gd gu gv gs os n c bm ii kk mm sa sb sc sd su sv s0) ed.on v x) : Yld Try.prog R oRkRx_82 a x 284 (specAt (spRkRx Va Vb Vc Vd Vu Vv Vp ga gb gc gd gu gv gs os n c bm ii kk mm sa sb sc sd su sv s0) 82) := by
  obtain ⟨v80, t80, f80⟩ := dep ⟨80, .data⟩ (by simp [oRkRx_82]) rfl 282 rfl
  have f80 : v80 = (.slice (some ⟨gv, 0, none⟩) n n) := f80
  subst f80
  obtain ⟨v81, t81, f81⟩ := dep ⟨81, .data⟩ (by simp [oRkRx_82]) rfl 283 rfl
  have f81 : v81 = (.int .i64 (ii : Int)) := f81
  subst f81
  exact yld_run (x' := x) rfl (run_ixr (Lw := n) (cap := n) (tmp_eval t80) (tmp_eval t81) E.hi) (Q.refl x) rfl
theorem yRkRx_83 {a0 : Act} {w : World} {Va Vb Vc Vd Vu Vv Vp ga gb gc gd gu gv gs os n c bm ii kk mm sa sb sc sd su sv s0 : Nat} (E : EnvRkRx a0 w Va Vb Vc Vd Vu Vv Vp ga gb gc gd gu gv gs os n c bm ii kk mm sa sb sc sd su sv s0) {R : Exit → Act → World → Prop} {a : Act} {x : World} (q : Q w x) (oth : ∀ j, j ∉ sRkRx → a.tmps[j]? = a0.tmps[j]?) (dep : ∀ ed ∈ oRkRx_83.after, Region.binds .any ed = true → ∀ t', sRkRx[ed.on]? = some t' → ∃ v, a.tmps[t']? = some v ∧ specAt (spRkRx Va Vb Vc Vd Vu Vv Vp ga gb gc gd gu gv gs os n c bm ii kk mm sa sb sc sd su sv s0) ed.on v x) : Yld Try.prog R oRkRx_83 a x 285 (specAt (spRkRx Va Vb Vc Vd Vu Vv Vp ga gb gc gd gu gv gs os n c bm ii kk mm sa sb sc sd su sv s0) 83) := by
  obtain ⟨v82, t82, f82⟩ := dep ⟨82, .data⟩ (by simp [oRkRx_83]) rfl 284 rfl
  have f82 : v82 = (.pointer (some ⟨gv, ii, none⟩)) := f82
  subst f82
  have h82 := tmp_eval t82
  have hc := q.cell E.kv
  exact yld_run (x' := x) rfl (by simp [oRkRx_83, execOp, go_sem, t82, hc]) (Q.refl x) rfl
theorem yRkRx_84 {a0 : Act} {w : World} {Va Vb Vc Vd Vu Vv Vp ga gb gc gd gu gv gs os n c bm ii kk mm sa sb sc sd su sv s0 : Nat} (E : EnvRkRx a0 w Va Vb Vc Vd Vu Vv Vp ga gb gc gd gu gv gs os n c bm ii kk mm sa sb sc sd su sv s0) {R : Exit → Act → World → Prop} {a : Act} {x : World} (q : Q w x) (oth : ∀ j, j ∉ sRkRx → a.tmps[j]? = a0.tmps[j]?) (dep : ∀ ed ∈ oRkRx_84.after, Region.binds .any ed = true → ∀ t', sRkRx[ed.on]? = some t' → ∃ v, a.tmps[t']? = some v ∧ specAt (spRkRx Va Vb Vc Vd Vu Vv Vp ga gb gc gd gu gv gs os n c bm ii kk mm sa sb sc sd su sv s0) ed.on v x) : Yld Try.prog R oRkRx_84 a x 286 (specAt (spRkRx Va Vb Vc Vd Vu Vv Vp ga gb gc gd gu gv gs os n c bm ii kk mm sa sb sc sd su sv s0) 84) := by
  obtain ⟨v83, t83, f83⟩ := dep ⟨83, .data⟩ (by simp [oRkRx_84]) rfl 285 rfl
  have f83 : v83 = (.int .u32 (sv : Int)) := f83
  subst f83
  refine yld_call (enters_of Try.func15 (by kernel_rfl) rfl) (vs := #[.int .u32 (sv : Int)]) (by simp [tmp_eval t83]) ((kkey_any sv E.bv x).mono ?_)
  rintro u x' ⟨rfl, rfl⟩
  exact ⟨_, rfl, Q.refl _, rfl⟩
theorem yRkRx_85 {a0 : Act} {w : World} {Va Vb Vc Vd Vu Vv Vp ga gb gc gd gu gv gs os n c bm ii kk mm sa sb sc sd su sv s0 : Nat} (E : EnvRkRx a0 w Va Vb Vc Vd Vu Vv Vp ga gb gc gd gu gv gs os n c bm ii kk mm sa sb sc sd su sv s0) {R : Exit → Act → World → Prop} {a : Act} {x : World} (q : Q w x) (oth : ∀ j, j ∉ sRkRx → a.tmps[j]? = a0.tmps[j]?) (dep : ∀ ed ∈ oRkRx_85.after, Region.binds .any ed = true → ∀ t', sRkRx[ed.on]? = some t' → ∃ v, a.tmps[t']? = some v ∧ specAt (spRkRx Va Vb Vc Vd Vu Vv Vp ga gb gc gd gu gv gs os n c bm ii kk mm sa sb sc sd su sv s0) ed.on v x) : Yld Try.prog R oRkRx_85 a x 287 (specAt (spRkRx Va Vb Vc Vd Vu Vv Vp ga gb gc gd gu gv gs os n c bm ii kk mm sa sb sc sd su sv s0) 85) := by
  have hs := (oth 7 (by decide)).trans E.h7
  exact yld_run (x' := x) rfl (by simp [oRkRx_85, execOp, go_sem, hs, ptrV]) (Q.refl x) rfl
theorem yRkRx_86 {a0 : Act} {w : World} {Va Vb Vc Vd Vu Vv Vp ga gb gc gd gu gv gs os n c bm ii kk mm sa sb sc sd su sv s0 : Nat} (E : EnvRkRx a0 w Va Vb Vc Vd Vu Vv Vp ga gb gc gd gu gv gs os n c bm ii kk mm sa sb sc sd su sv s0) {R : Exit → Act → World → Prop} {a : Act} {x : World} (q : Q w x) (oth : ∀ j, j ∉ sRkRx → a.tmps[j]? = a0.tmps[j]?) (dep : ∀ ed ∈ oRkRx_86.after, Region.binds .any ed = true → ∀ t', sRkRx[ed.on]? = some t' → ∃ v, a.tmps[t']? = some v ∧ specAt (spRkRx Va Vb Vc Vd Vu Vv Vp ga gb gc gd gu gv gs os n c bm ii kk mm sa sb sc sd su sv s0) ed.on v x) : Yld Try.prog R oRkRx_86 a x 288 (specAt (spRkRx Va Vb Vc Vd Vu Vv Vp ga gb gc gd gu gv gs os n c bm ii kk mm sa sb sc sd su sv s0) 86) := by
  obtain ⟨v85, t85, f85⟩ := dep ⟨85, .data⟩ (by simp [oRkRx_86]) rfl 287 rfl
  have f85 : v85 = (.pointer (some ⟨Vp, 2, none⟩)) := f85
  subst f85
  have h85 := tmp_eval t85
  have hc := q.cell E.cp
  exact yld_run (x' := x) rfl (by simp [oRkRx_86, execOp, go_sem, t85, hc]) (Q.refl x) rfl
theorem yRkRx_87 {a0 : Act} {w : World} {Va Vb Vc Vd Vu Vv Vp ga gb gc gd gu gv gs os n c bm ii kk mm sa sb sc sd su sv s0 : Nat} (E : EnvRkRx a0 w Va Vb Vc Vd Vu Vv Vp ga gb gc gd gu gv gs os n c bm ii kk mm sa sb sc sd su sv s0) {R : Exit → Act → World → Prop} {a : Act} {x : World} (q : Q w x) (oth : ∀ j, j ∉ sRkRx → a.tmps[j]? = a0.tmps[j]?) (dep : ∀ ed ∈ oRkRx_87.after, Region.binds .any ed = true → ∀ t', sRkRx[ed.on]? = some t' → ∃ v, a.tmps[t']? = some v ∧ specAt (spRkRx Va Vb Vc Vd Vu Vv Vp ga gb gc gd gu gv gs os n c bm ii kk mm sa sb sc sd su sv s0) ed.on v x) : Yld Try.prog R oRkRx_87 a x 289 (specAt (spRkRx Va Vb Vc Vd Vu Vv Vp ga gb gc gd gu gv gs os n c bm ii kk mm sa sb sc sd su sv s0) 87) := by
  exact yld_move ((oth 31 (by decide)).trans E.h31) rfl
theorem yRkRx_88 {a0 : Act} {w : World} {Va Vb Vc Vd Vu Vv Vp ga gb gc gd gu gv gs os n c bm ii kk mm sa sb sc sd su sv s0 : Nat} (E : EnvRkRx a0 w Va Vb Vc Vd Vu Vv Vp ga gb gc gd gu gv gs os n c bm ii kk mm sa sb sc sd su sv s0) {R : Exit → Act → World → Prop} {a : Act} {x : World} (q : Q w x) (oth : ∀ j, j ∉ sRkRx → a.tmps[j]? = a0.tmps[j]?) (dep : ∀ ed ∈ oRkRx_88.after, Region.binds .any ed = true → ∀ t', sRkRx[ed.on]? = some t' → ∃ v, a.tmps[t']? = some v ∧ specAt (spRkRx Va Vb Vc Vd Vu Vv Vp ga gb gc gd gu gv gs os n c bm ii kk mm sa sb sc sd su sv s0) ed.on v x) : Yld Try.prog R oRkRx_88 a x 290 (specAt (spRkRx Va Vb Vc Vd Vu Vv Vp ga gb gc gd gu gv gs os n c bm ii kk mm sa sb sc sd su sv s0) 88) := by
  obtain ⟨v86, t86, f86⟩ := dep ⟨86, .data⟩ (by simp [oRkRx_88]) rfl 288 rfl
  have f86 : v86 = (.slice (some ⟨gs, os, none⟩) n c) := f86
  subst f86
  obtain ⟨v87, t87, f87⟩ := dep ⟨87, .data⟩ (by simp [oRkRx_88]) rfl 289 rfl
  have f87 : v87 = (.int .i64 (ii : Int)) := f87
  subst f87
  exact yld_run (x' := x) rfl (run_ixo (Lw := n) (cap := c) (tmp_eval t86) (tmp_eval t87) E.hi) (Q.refl x) rfl
theorem yRkRx_89 {a0 : Act} {w : World} {Va Vb Vc Vd Vu Vv Vp ga gb gc gd gu gv gs os n c bm ii kk mm sa sb sc sd su sv s0 : Nat} (E : EnvRkRx a0 w Va Vb Vc Vd Vu Vv Vp ga gb gc gd gu gv gs os n c bm ii kk mm sa sb sc sd su sv s0) {R : Exit → Act → World → Prop} {a : Act} {x : World} (q : Q w x) (oth : ∀ j, j ∉ sRkRx → a.tmps[j]? = a0.tmps[j]?) (dep : ∀ ed ∈ oRkRx_89.after, Region.binds .any ed = true → ∀ t', sRkRx[ed.on]? = some t' → ∃ v, a.tmps[t']? = some v ∧ specAt (spRkRx Va Vb Vc Vd Vu Vv Vp ga gb gc gd gu gv gs os n c bm ii kk mm sa sb sc sd su sv s0) ed.on v x) : Yld Try.prog R oRkRx_89 a x 291 (specAt (spRkRx Va Vb Vc Vd Vu Vv Vp ga gb gc gd gu gv gs os n c bm ii kk mm sa sb sc sd su sv s0) 89) := by
  obtain ⟨v88, t88, f88⟩ := dep ⟨88, .data⟩ (by simp [oRkRx_89]) rfl 290 rfl
  have f88 : v88 = (.pointer (some ⟨gs, os + ii, none⟩)) := f88
  subst f88
  have h88 := tmp_eval t88
  have hc := q.cell E.kp
  exact yld_run (x' := x) rfl (by simp [oRkRx_89, execOp, go_sem, t88, hc]) (Q.refl x) rfl
theorem yRkRx_90 {a0 : Act} {w : World} {Va Vb Vc Vd Vu Vv Vp ga gb gc gd gu gv gs os n c bm ii kk mm sa sb sc sd su sv s0 : Nat} (E : EnvRkRx a0 w Va Vb Vc Vd Vu Vv Vp ga gb gc gd gu gv gs os n c bm ii kk mm sa sb sc sd su sv s0) {R : Exit → Act → World → Prop} {a : Act} {x : World} (q : Q w x) (oth : ∀ j, j ∉ sRkRx → a.tmps[j]? = a0.tmps[j]?) (dep : ∀ ed ∈ oRkRx_90.after, Region.binds .any ed = true → ∀ t', sRkRx[ed.on]? = some t' → ∃ v, a.tmps[t']? = some v ∧ specAt (spRkRx Va Vb Vc Vd Vu Vv Vp ga gb gc gd gu gv gs os n c bm ii kk mm sa sb sc sd su sv s0) ed.on v x) : Yld Try.prog R oRkRx_90 a x 292 (specAt (spRkRx Va Vb Vc Vd Vu Vv Vp ga gb gc gd gu gv gs os n c bm ii kk mm sa sb sc sd su sv s0) 90) := by
  obtain ⟨v89, t89, f89⟩ := dep ⟨89, .data⟩ (by simp [oRkRx_90]) rfl 291 rfl
  have f89 : v89 = (.int .u32 (s0 : Int)) := f89
  subst f89
  refine yld_call (enters_of Try.func15 (by kernel_rfl) rfl) (vs := #[.int .u32 (s0 : Int)]) (by simp [tmp_eval t89]) ((kkey_any s0 E.bp x).mono ?_)
  rintro u x' ⟨rfl, rfl⟩
  exact ⟨_, rfl, Q.refl _, rfl⟩
theorem yRkRx_91 {a0 : Act} {w : World} {Va Vb Vc Vd Vu Vv Vp ga gb gc gd gu gv gs os n c bm ii kk mm sa sb sc sd su sv s0 : Nat} (E : EnvRkRx a0 w Va Vb Vc Vd Vu Vv Vp ga gb gc gd gu gv gs os n c bm ii kk mm sa sb sc sd su sv s0) {R : Exit → Act → World → Prop} {a : Act} {x : World} (q : Q w x) (oth : ∀ j, j ∉ sRkRx → a.tmps[j]? = a0.tmps[j]?) (dep : ∀ ed ∈ oRkRx_91.after, Region.binds .any ed = true → ∀ t', sRkRx[ed.on]? = some t' → ∃ v, a.tmps[t']? = some v ∧ specAt (spRkRx Va Vb Vc Vd Vu Vv Vp ga gb gc gd gu gv gs os n c bm ii kk mm sa sb sc sd su sv s0) ed.on v x) : Yld Try.prog R oRkRx_91 a x 293 (specAt (spRkRx Va Vb Vc Vd Vu Vv Vp ga gb gc gd gu gv gs os n c bm ii kk mm sa sb sc sd su sv s0) 91) := by
  obtain ⟨v84, t84, f84⟩ := dep ⟨84, .data⟩ (by simp [oRkRx_91]) rfl 286 rfl
  have f84 : v84 = (.int .u32 ((keyN sv : Nat) : Int)) := f84
  subst f84
  obtain ⟨v90, t90, f90⟩ := dep ⟨90, .data⟩ (by simp [oRkRx_91]) rfl 292 rfl
  have f90 : v90 = (.int .u32 ((keyN s0 : Nat) : Int)) := f90
  subst f90
  have h84 := tmp_eval t84
  have h90 := tmp_eval t90
  have hf := E.qvp
  exact yld_run (x' := x) rfl (by simp [oRkRx_91, execOp, go_sem, t84, t90, hf]) (Q.refl x) rfl
theorem yRkRx_92 {a0 : Act} {w : World} {Va Vb Vc Vd Vu Vv Vp ga gb gc gd gu gv gs os n c bm ii kk mm sa sb sc sd su sv s0 : Nat} (E : EnvRkRx a0 w Va Vb Vc Vd Vu Vv Vp ga gb gc gd gu gv gs os n c bm ii kk mm sa sb sc sd su sv s0) {R : Exit → Act → World → Prop} {a : Act} {x : World} (q : Q w x) (oth : ∀ j, j ∉ sRkRx → a.tmps[j]? = a0.tmps[j]?) (dep : ∀ ed ∈ oRkRx_92.after, Region.binds .any ed = true → ∀ t', sRkRx[ed.on]? = some t' → ∃ v, a.tmps[t']? = some v ∧ specAt (spRkRx Va Vb Vc Vd Vu Vv Vp ga gb gc gd gu gv gs os n c bm ii kk mm sa sb sc sd su sv s0) ed.on v x) : Yld Try.prog R oRkRx_92 a x 294 (specAt (spRkRx Va Vb Vc Vd Vu Vv Vp ga gb gc gd gu gv gs os n c bm ii kk mm sa sb sc sd su sv s0) 92) := by
  obtain ⟨v78, t78, f78⟩ := dep ⟨78, .data⟩ (by simp [oRkRx_92]) rfl 280 rfl
  have f78 : v78 = (.bool false) := f78
  subst f78
  obtain ⟨v91, t91, f91⟩ := dep ⟨91, .data⟩ (by simp [oRkRx_92]) rfl 293 rfl
  have f91 : v91 = (.bool false) := f91
  subst f91
  have h78 := tmp_eval t78
  have h91 := tmp_eval t91
  exact yld_run (x' := x) rfl (by simp [oRkRx_92, execOp, go_sem, t78, t91]) (Q.refl x) rfl
theorem hopRkRx {a0 : Act} {w : World} {Va Vb Vc Vd Vu Vv Vp ga gb gc gd gu gv gs os n c bm ii kk mm sa sb sc sd su sv s0 : Nat} (E : EnvRkRx a0 w Va Vb Vc Vd Vu Vv Vp ga gb gc gd gu gv gs os n c bm ii kk mm sa sb sc sd su sv s0) {R : Exit → Act → World → Prop} : ∀ (i t : Nat) (o : Oper) (a : Act) (x : World), skRkRx i = false → sRkRx[i]? = some t → opsRkRx[i]? = some o → Q w x → (∀ j, j ∉ sRkRx → a.tmps[j]? = a0.tmps[j]?) → (∀ ed ∈ o.after, Region.binds .any ed = true → ∀ t', sRkRx[ed.on]? = some t' → ∃ v, a.tmps[t']? = some v ∧ specAt (spRkRx Va Vb Vc Vd Vu Vv Vp ga gb gc gd gu gv gs os n c bm ii kk mm sa sb sc sd su sv s0) ed.on v x) → Yld Try.prog R o a x t (specAt (spRkRx Va Vb Vc Vd Vu Vv Vp ga gb gc gd gu gv gs os n c bm ii kk mm sa sb sc sd su sv s0) i)
  | 0, t, o, a, x, hi, ht, ho, q, oth, dep => by
    have e1 : oRkRx_0 = o := Option.some.inj ho
    have e2 : 202 = t := Option.some.inj ht
    subst e1 e2
    exact yRkRx_0 E q oth dep
  | 1, t, o, a, x, hi, ht, ho, q, oth, dep => by
    have e1 : oRkRx_1 = o := Option.some.inj ho
    have e2 : 203 = t := Option.some.inj ht
    subst e1 e2
    exact yRkRx_1 E q oth dep
  | 2, t, o, a, x, hi, ht, ho, q, oth, dep => by
    have e1 : oRkRx_2 = o := Option.some.inj ho
    have e2 : 204 = t := Option.some.inj ht
    subst e1 e2
    exact yRkRx_2 E q oth dep
  | 3, t, o, a, x, hi, ht, ho, q, oth, dep => by
    have e1 : oRkRx_3 = o := Option.some.inj ho
    have e2 : 205 = t := Option.some.inj ht
    subst e1 e2
    exact yRkRx_3 E q oth dep
  | 4, t, o, a, x, hi, ht, ho, q, oth, dep => by
    have e1 : oRkRx_4 = o := Option.some.inj ho
    have e2 : 206 = t := Option.some.inj ht
    subst e1 e2
    exact yRkRx_4 E q oth dep
  | 5, t, o, a, x, hi, ht, ho, q, oth, dep => by
    have e1 : oRkRx_5 = o := Option.some.inj ho
    have e2 : 207 = t := Option.some.inj ht
    subst e1 e2
    exact yRkRx_5 E q oth dep
  | 6, t, o, a, x, hi, ht, ho, q, oth, dep => by
    have e1 : oRkRx_6 = o := Option.some.inj ho
    have e2 : 208 = t := Option.some.inj ht
    subst e1 e2
    exact yRkRx_6 E q oth dep
  | 7, t, o, a, x, hi, ht, ho, q, oth, dep => by
    have e1 : oRkRx_7 = o := Option.some.inj ho
    have e2 : 209 = t := Option.some.inj ht
    subst e1 e2
    exact yRkRx_7 E q oth dep
  | 8, t, o, a, x, hi, ht, ho, q, oth, dep => by
    have e1 : oRkRx_8 = o := Option.some.inj ho
    have e2 : 210 = t := Option.some.inj ht
    subst e1 e2
    exact yRkRx_8 E q oth dep
  | 9, t, o, a, x, hi, ht, ho, q, oth, dep => by
    have e1 : oRkRx_9 = o := Option.some.inj ho
    have e2 : 211 = t := Option.some.inj ht
    subst e1 e2
    exact yRkRx_9 E q oth dep
  | 10, t, o, a, x, hi, ht, ho, q, oth, dep => by
    have e1 : oRkRx_10 = o := Option.some.inj ho
    have e2 : 212 = t := Option.some.inj ht
    subst e1 e2
    exact yRkRx_10 E q oth dep
  | 11, t, o, a, x, hi, ht, ho, q, oth, dep => by
    have e1 : oRkRx_11 = o := Option.some.inj ho
    have e2 : 213 = t := Option.some.inj ht
    subst e1 e2
    exact yRkRx_11 E q oth dep
  | 12, t, o, a, x, hi, ht, ho, q, oth, dep => by
    have e1 : oRkRx_12 = o := Option.some.inj ho
    have e2 : 214 = t := Option.some.inj ht
    subst e1 e2
    exact yRkRx_12 E q oth dep
  | 13, t, o, a, x, hi, ht, ho, q, oth, dep => by
    have e1 : oRkRx_13 = o := Option.some.inj ho
    have e2 : 215 = t := Option.some.inj ht
    subst e1 e2
    exact yRkRx_13 E q oth dep
  | 14, t, o, a, x, hi, ht, ho, q, oth, dep => by
    have e1 : oRkRx_14 = o := Option.some.inj ho
    have e2 : 216 = t := Option.some.inj ht
    subst e1 e2
    exact yRkRx_14 E q oth dep
  | 15, t, o, a, x, hi, ht, ho, q, oth, dep => by
    have e1 : oRkRx_15 = o := Option.some.inj ho
    have e2 : 217 = t := Option.some.inj ht
    subst e1 e2
    exact yRkRx_15 E q oth dep
  | 16, t, o, a, x, hi, ht, ho, q, oth, dep => by
    have e1 : oRkRx_16 = o := Option.some.inj ho
    have e2 : 218 = t := Option.some.inj ht
    subst e1 e2
    exact yRkRx_16 E q oth dep
  | 17, t, o, a, x, hi, ht, ho, q, oth, dep => by
    have e1 : oRkRx_17 = o := Option.some.inj ho
    have e2 : 219 = t := Option.some.inj ht
    subst e1 e2
    exact yRkRx_17 E q oth dep
  | 18, t, o, a, x, hi, ht, ho, q, oth, dep => by
    have e1 : oRkRx_18 = o := Option.some.inj ho
    have e2 : 220 = t := Option.some.inj ht
    subst e1 e2
    exact yRkRx_18 E q oth dep
  | 19, t, o, a, x, hi, ht, ho, q, oth, dep => by
    have e1 : oRkRx_19 = o := Option.some.inj ho
    have e2 : 221 = t := Option.some.inj ht
    subst e1 e2
    exact yRkRx_19 E q oth dep
  | 20, t, o, a, x, hi, ht, ho, q, oth, dep => by
    have e1 : oRkRx_20 = o := Option.some.inj ho
    have e2 : 222 = t := Option.some.inj ht
    subst e1 e2
    exact yRkRx_20 E q oth dep
  | 21, t, o, a, x, hi, ht, ho, q, oth, dep => by
    have e1 : oRkRx_21 = o := Option.some.inj ho
    have e2 : 223 = t := Option.some.inj ht
    subst e1 e2
    exact yRkRx_21 E q oth dep
  | 22, t, o, a, x, hi, ht, ho, q, oth, dep => by
    have e1 : oRkRx_22 = o := Option.some.inj ho
    have e2 : 224 = t := Option.some.inj ht
    subst e1 e2
    exact yRkRx_22 E q oth dep
  | 23, t, o, a, x, hi, ht, ho, q, oth, dep => by
    have e1 : oRkRx_23 = o := Option.some.inj ho
    have e2 : 225 = t := Option.some.inj ht
    subst e1 e2
    exact yRkRx_23 E q oth dep
  | 24, t, o, a, x, hi, ht, ho, q, oth, dep => by
    have e1 : oRkRx_24 = o := Option.some.inj ho
    have e2 : 226 = t := Option.some.inj ht
    subst e1 e2
    exact yRkRx_24 E q oth dep
  | 25, t, o, a, x, hi, ht, ho, q, oth, dep => by
    have e1 : oRkRx_25 = o := Option.some.inj ho
    have e2 : 227 = t := Option.some.inj ht
    subst e1 e2
    exact yRkRx_25 E q oth dep
  | 26, t, o, a, x, hi, ht, ho, q, oth, dep => by
    have e1 : oRkRx_26 = o := Option.some.inj ho
    have e2 : 228 = t := Option.some.inj ht
    subst e1 e2
    exact yRkRx_26 E q oth dep
  | 27, t, o, a, x, hi, ht, ho, q, oth, dep => by
    have e1 : oRkRx_27 = o := Option.some.inj ho
    have e2 : 229 = t := Option.some.inj ht
    subst e1 e2
    exact yRkRx_27 E q oth dep
  | 28, t, o, a, x, hi, ht, ho, q, oth, dep => by
    have e1 : oRkRx_28 = o := Option.some.inj ho
    have e2 : 230 = t := Option.some.inj ht
    subst e1 e2
    exact yRkRx_28 E q oth dep
  | 29, t, o, a, x, hi, ht, ho, q, oth, dep => by
    have e1 : oRkRx_29 = o := Option.some.inj ho
    have e2 : 231 = t := Option.some.inj ht
    subst e1 e2
    exact yRkRx_29 E q oth dep
  | 30, t, o, a, x, hi, ht, ho, q, oth, dep => by
    have e1 : oRkRx_30 = o := Option.some.inj ho
    have e2 : 232 = t := Option.some.inj ht
    subst e1 e2
    exact yRkRx_30 E q oth dep
  | 31, t, o, a, x, hi, ht, ho, q, oth, dep => by
    have e1 : oRkRx_31 = o := Option.some.inj ho
    have e2 : 233 = t := Option.some.inj ht
    subst e1 e2
    exact yRkRx_31 E q oth dep
  | 32, t, o, a, x, hi, ht, ho, q, oth, dep => by
    have e1 : oRkRx_32 = o := Option.some.inj ho
    have e2 : 234 = t := Option.some.inj ht
    subst e1 e2
    exact yRkRx_32 E q oth dep
  | 33, t, o, a, x, hi, ht, ho, q, oth, dep => by
    have e1 : oRkRx_33 = o := Option.some.inj ho
    have e2 : 235 = t := Option.some.inj ht
    subst e1 e2
    exact yRkRx_33 E q oth dep
  | 34, t, o, a, x, hi, ht, ho, q, oth, dep => by
    have e1 : oRkRx_34 = o := Option.some.inj ho
    have e2 : 236 = t := Option.some.inj ht
    subst e1 e2
    exact yRkRx_34 E q oth dep
  | 35, t, o, a, x, hi, ht, ho, q, oth, dep => by
    have e1 : oRkRx_35 = o := Option.some.inj ho
    have e2 : 237 = t := Option.some.inj ht
    subst e1 e2
    exact yRkRx_35 E q oth dep
  | 36, t, o, a, x, hi, ht, ho, q, oth, dep => by
    have e1 : oRkRx_36 = o := Option.some.inj ho
    have e2 : 238 = t := Option.some.inj ht
    subst e1 e2
    exact yRkRx_36 E q oth dep
  | 37, t, o, a, x, hi, ht, ho, q, oth, dep => by
    have e1 : oRkRx_37 = o := Option.some.inj ho
    have e2 : 239 = t := Option.some.inj ht
    subst e1 e2
    exact yRkRx_37 E q oth dep
  | 38, t, o, a, x, hi, ht, ho, q, oth, dep => by
    have e1 : oRkRx_38 = o := Option.some.inj ho
    have e2 : 240 = t := Option.some.inj ht
    subst e1 e2
    exact yRkRx_38 E q oth dep
  | 39, t, o, a, x, hi, ht, ho, q, oth, dep => by
    have e1 : oRkRx_39 = o := Option.some.inj ho
    have e2 : 241 = t := Option.some.inj ht
    subst e1 e2
    exact yRkRx_39 E q oth dep
  | 40, t, o, a, x, hi, ht, ho, q, oth, dep => by
    have e1 : oRkRx_40 = o := Option.some.inj ho
    have e2 : 242 = t := Option.some.inj ht
    subst e1 e2
    exact yRkRx_40 E q oth dep
  | 41, t, o, a, x, hi, ht, ho, q, oth, dep => by
    have e1 : oRkRx_41 = o := Option.some.inj ho
    have e2 : 243 = t := Option.some.inj ht
    subst e1 e2
    exact yRkRx_41 E q oth dep
  | 42, t, o, a, x, hi, ht, ho, q, oth, dep => by
    have e1 : oRkRx_42 = o := Option.some.inj ho
    have e2 : 244 = t := Option.some.inj ht
    subst e1 e2
    exact yRkRx_42 E q oth dep
  | 43, t, o, a, x, hi, ht, ho, q, oth, dep => by
    have e1 : oRkRx_43 = o := Option.some.inj ho
    have e2 : 245 = t := Option.some.inj ht
    subst e1 e2
    exact yRkRx_43 E q oth dep
  | 44, t, o, a, x, hi, ht, ho, q, oth, dep => by
    have e1 : oRkRx_44 = o := Option.some.inj ho
    have e2 : 246 = t := Option.some.inj ht
    subst e1 e2
    exact yRkRx_44 E q oth dep
  | 45, t, o, a, x, hi, ht, ho, q, oth, dep => by
    have e1 : oRkRx_45 = o := Option.some.inj ho
    have e2 : 247 = t := Option.some.inj ht
    subst e1 e2
    exact yRkRx_45 E q oth dep
  | 46, t, o, a, x, hi, ht, ho, q, oth, dep => by
    have e1 : oRkRx_46 = o := Option.some.inj ho
    have e2 : 248 = t := Option.some.inj ht
    subst e1 e2
    exact yRkRx_46 E q oth dep
  | 47, t, o, a, x, hi, ht, ho, q, oth, dep => by
    have e1 : oRkRx_47 = o := Option.some.inj ho
    have e2 : 249 = t := Option.some.inj ht
    subst e1 e2
    exact yRkRx_47 E q oth dep
  | 48, t, o, a, x, hi, ht, ho, q, oth, dep => by
    have e1 : oRkRx_48 = o := Option.some.inj ho
    have e2 : 250 = t := Option.some.inj ht
    subst e1 e2
    exact yRkRx_48 E q oth dep
  | 49, t, o, a, x, hi, ht, ho, q, oth, dep => by
    have e1 : oRkRx_49 = o := Option.some.inj ho
    have e2 : 251 = t := Option.some.inj ht
    subst e1 e2
    exact yRkRx_49 E q oth dep
  | 50, t, o, a, x, hi, ht, ho, q, oth, dep => by
    have e1 : oRkRx_50 = o := Option.some.inj ho
    have e2 : 252 = t := Option.some.inj ht
    subst e1 e2
    exact yRkRx_50 E q oth dep
  | 51, t, o, a, x, hi, ht, ho, q, oth, dep => by
    have e1 : oRkRx_51 = o := Option.some.inj ho
    have e2 : 253 = t := Option.some.inj ht
    subst e1 e2
    exact yRkRx_51 E q oth dep
  | 52, t, o, a, x, hi, ht, ho, q, oth, dep => by
    have e1 : oRkRx_52 = o := Option.some.inj ho
    have e2 : 254 = t := Option.some.inj ht
    subst e1 e2
    exact yRkRx_52 E q oth dep
  | 53, t, o, a, x, hi, ht, ho, q, oth, dep => by
    have e1 : oRkRx_53 = o := Option.some.inj ho
    have e2 : 255 = t := Option.some.inj ht
    subst e1 e2
    exact yRkRx_53 E q oth dep
  | 54, t, o, a, x, hi, ht, ho, q, oth, dep => by
    have e1 : oRkRx_54 = o := Option.some.inj ho
    have e2 : 256 = t := Option.some.inj ht
    subst e1 e2
    exact yRkRx_54 E q oth dep
  | 55, t, o, a, x, hi, ht, ho, q, oth, dep => by
    have e1 : oRkRx_55 = o := Option.some.inj ho
    have e2 : 257 = t := Option.some.inj ht
    subst e1 e2
    exact yRkRx_55 E q oth dep
  | 56, t, o, a, x, hi, ht, ho, q, oth, dep => by
    have e1 : oRkRx_56 = o := Option.some.inj ho
    have e2 : 258 = t := Option.some.inj ht
    subst e1 e2
    exact yRkRx_56 E q oth dep
  | 57, t, o, a, x, hi, ht, ho, q, oth, dep => by
    have e1 : oRkRx_57 = o := Option.some.inj ho
    have e2 : 259 = t := Option.some.inj ht
    subst e1 e2
    exact yRkRx_57 E q oth dep
  | 58, t, o, a, x, hi, ht, ho, q, oth, dep => by
    have e1 : oRkRx_58 = o := Option.some.inj ho
    have e2 : 260 = t := Option.some.inj ht
    subst e1 e2
    exact yRkRx_58 E q oth dep
  | 59, t, o, a, x, hi, ht, ho, q, oth, dep => by
    have e1 : oRkRx_59 = o := Option.some.inj ho
    have e2 : 261 = t := Option.some.inj ht
    subst e1 e2
    exact yRkRx_59 E q oth dep
  | 60, t, o, a, x, hi, ht, ho, q, oth, dep => by
    have e1 : oRkRx_60 = o := Option.some.inj ho
    have e2 : 262 = t := Option.some.inj ht
    subst e1 e2
    exact yRkRx_60 E q oth dep
  | 61, t, o, a, x, hi, ht, ho, q, oth, dep => by
    have e1 : oRkRx_61 = o := Option.some.inj ho
    have e2 : 263 = t := Option.some.inj ht
    subst e1 e2
    exact yRkRx_61 E q oth dep
  | 62, t, o, a, x, hi, ht, ho, q, oth, dep => by
    have e1 : oRkRx_62 = o := Option.some.inj ho
    have e2 : 264 = t := Option.some.inj ht
    subst e1 e2
    exact yRkRx_62 E q oth dep
  | 63, t, o, a, x, hi, ht, ho, q, oth, dep => by
    have e1 : oRkRx_63 = o := Option.some.inj ho
    have e2 : 265 = t := Option.some.inj ht
    subst e1 e2
    exact yRkRx_63 E q oth dep
  | 64, t, o, a, x, hi, ht, ho, q, oth, dep => by
    have e1 : oRkRx_64 = o := Option.some.inj ho
    have e2 : 266 = t := Option.some.inj ht
    subst e1 e2
    exact yRkRx_64 E q oth dep
  | 65, t, o, a, x, hi, ht, ho, q, oth, dep => by
    have e1 : oRkRx_65 = o := Option.some.inj ho
    have e2 : 267 = t := Option.some.inj ht
    subst e1 e2
    exact yRkRx_65 E q oth dep
  | 66, t, o, a, x, hi, ht, ho, q, oth, dep => by
    have e1 : oRkRx_66 = o := Option.some.inj ho
    have e2 : 268 = t := Option.some.inj ht
    subst e1 e2
    exact yRkRx_66 E q oth dep
  | 67, t, o, a, x, hi, ht, ho, q, oth, dep => by
    have e1 : oRkRx_67 = o := Option.some.inj ho
    have e2 : 269 = t := Option.some.inj ht
    subst e1 e2
    exact yRkRx_67 E q oth dep
  | 68, t, o, a, x, hi, ht, ho, q, oth, dep => by
    have e1 : oRkRx_68 = o := Option.some.inj ho
    have e2 : 270 = t := Option.some.inj ht
    subst e1 e2
    exact yRkRx_68 E q oth dep
  | 69, t, o, a, x, hi, ht, ho, q, oth, dep => by
    have e1 : oRkRx_69 = o := Option.some.inj ho
    have e2 : 271 = t := Option.some.inj ht
    subst e1 e2
    exact yRkRx_69 E q oth dep
  | 70, t, o, a, x, hi, ht, ho, q, oth, dep => by
    have e1 : oRkRx_70 = o := Option.some.inj ho
    have e2 : 272 = t := Option.some.inj ht
    subst e1 e2
    exact yRkRx_70 E q oth dep
  | 71, t, o, a, x, hi, ht, ho, q, oth, dep => by
    have e1 : oRkRx_71 = o := Option.some.inj ho
    have e2 : 273 = t := Option.some.inj ht
    subst e1 e2
    exact yRkRx_71 E q oth dep
  | 72, t, o, a, x, hi, ht, ho, q, oth, dep => by
    have e1 : oRkRx_72 = o := Option.some.inj ho
    have e2 : 274 = t := Option.some.inj ht
    subst e1 e2
    exact yRkRx_72 E q oth dep
  | 73, t, o, a, x, hi, ht, ho, q, oth, dep => by
    have e1 : oRkRx_73 = o := Option.some.inj ho
    have e2 : 275 = t := Option.some.inj ht
    subst e1 e2
    exact yRkRx_73 E q oth dep
  | 74, t, o, a, x, hi, ht, ho, q, oth, dep => by
    have e1 : oRkRx_74 = o := Option.some.inj ho
    have e2 : 276 = t := Option.some.inj ht
    subst e1 e2
    exact yRkRx_74 E q oth dep
  | 75, t, o, a, x, hi, ht, ho, q, oth, dep => by
    have e1 : oRkRx_75 = o := Option.some.inj ho
    have e2 : 277 = t := Option.some.inj ht
    subst e1 e2
    exact yRkRx_75 E q oth dep
  | 76, t, o, a, x, hi, ht, ho, q, oth, dep => by
    have e1 : oRkRx_76 = o := Option.some.inj ho
    have e2 : 278 = t := Option.some.inj ht
    subst e1 e2
    exact yRkRx_76 E q oth dep
  | 77, t, o, a, x, hi, ht, ho, q, oth, dep => by
    have e1 : oRkRx_77 = o := Option.some.inj ho
    have e2 : 279 = t := Option.some.inj ht
    subst e1 e2
    exact yRkRx_77 E q oth dep
  | 78, t, o, a, x, hi, ht, ho, q, oth, dep => by
    have e1 : oRkRx_78 = o := Option.some.inj ho
    have e2 : 280 = t := Option.some.inj ht
    subst e1 e2
    exact yRkRx_78 E q oth dep
  | 79, t, o, a, x, hi, ht, ho, q, oth, dep => by
    have e1 : oRkRx_79 = o := Option.some.inj ho
    have e2 : 281 = t := Option.some.inj ht
    subst e1 e2
    exact yRkRx_79 E q oth dep
  | 80, t, o, a, x, hi, ht, ho, q, oth, dep => by
    have e1 : oRkRx_80 = o := Option.some.inj ho
    have e2 : 282 = t := Option.some.inj ht
    subst e1 e2
    exact yRkRx_80 E q oth dep
  | 81, t, o, a, x, hi, ht, ho, q, oth, dep => by
    have e1 : oRkRx_81 = o := Option.some.inj ho
    have e2 : 283 = t := Option.some.inj ht
    subst e1 e2
    exact yRkRx_81 E q oth dep
  | 82, t, o, a, x, hi, ht, ho, q, oth, dep => by
    have e1 : oRkRx_82 = o := Option.some.inj ho
    have e2 : 284 = t := Option.some.inj ht
    subst e1 e2
    exact yRkRx_82 E q oth dep
  | 83, t, o, a, x, hi, ht, ho, q, oth, dep => by
    have e1 : oRkRx_83 = o := Option.some.inj ho
    have e2 : 285 = t := Option.some.inj ht
    subst e1 e2
    exact yRkRx_83 E q oth dep
  | 84, t, o, a, x, hi, ht, ho, q, oth, dep => by
    have e1 : oRkRx_84 = o := Option.some.inj ho
    have e2 : 286 = t := Option.some.inj ht
    subst e1 e2
    exact yRkRx_84 E q oth dep
  | 85, t, o, a, x, hi, ht, ho, q, oth, dep => by
    have e1 : oRkRx_85 = o := Option.some.inj ho
    have e2 : 287 = t := Option.some.inj ht
    subst e1 e2
    exact yRkRx_85 E q oth dep
  | 86, t, o, a, x, hi, ht, ho, q, oth, dep => by
    have e1 : oRkRx_86 = o := Option.some.inj ho
    have e2 : 288 = t := Option.some.inj ht
    subst e1 e2
    exact yRkRx_86 E q oth dep
  | 87, t, o, a, x, hi, ht, ho, q, oth, dep => by
    have e1 : oRkRx_87 = o := Option.some.inj ho
    have e2 : 289 = t := Option.some.inj ht
    subst e1 e2
    exact yRkRx_87 E q oth dep
  | 88, t, o, a, x, hi, ht, ho, q, oth, dep => by
    have e1 : oRkRx_88 = o := Option.some.inj ho
    have e2 : 290 = t := Option.some.inj ht
    subst e1 e2
    exact yRkRx_88 E q oth dep
  | 89, t, o, a, x, hi, ht, ho, q, oth, dep => by
    have e1 : oRkRx_89 = o := Option.some.inj ho
    have e2 : 291 = t := Option.some.inj ht
    subst e1 e2
    exact yRkRx_89 E q oth dep
  | 90, t, o, a, x, hi, ht, ho, q, oth, dep => by
    have e1 : oRkRx_90 = o := Option.some.inj ho
    have e2 : 292 = t := Option.some.inj ht
    subst e1 e2
    exact yRkRx_90 E q oth dep
  | 91, t, o, a, x, hi, ht, ho, q, oth, dep => by
    have e1 : oRkRx_91 = o := Option.some.inj ho
    have e2 : 293 = t := Option.some.inj ht
    subst e1 e2
    exact yRkRx_91 E q oth dep
  | 92, t, o, a, x, hi, ht, ho, q, oth, dep => by
    have e1 : oRkRx_92 = o := Option.some.inj ho
    have e2 : 294 = t := Option.some.inj ht
    subst e1 e2
    exact yRkRx_92 E q oth dep
  | i + 93, t, o, a, x, hi, ht, ho, q, oth, dep => by cases ho
def kbRkRx (i : Nat) : Bool := ((((opsRkRx[i]?).bind (fun o : Oper => o.guard) == none) && (skRkRx i == false)) || ((((opsRkRx[i]?).bind (fun o : Oper => o.guard) == some (8, false)) && (skRkRx i == false)) || ((((opsRkRx[i]?).bind (fun o : Oper => o.guard) == some (12, true)) && (skRkRx i == false)) || ((((opsRkRx[i]?).bind (fun o : Oper => o.guard) == some (28, false)) && (skRkRx i == false)) || ((((opsRkRx[i]?).bind (fun o : Oper => o.guard) == some (32, true)) && (skRkRx i == false)) || ((((opsRkRx[i]?).bind (fun o : Oper => o.guard) == some (48, false)) && (skRkRx i == false)) || ((((opsRkRx[i]?).bind (fun o : Oper => o.guard) == some (63, false)) && (skRkRx i == false)) || (((opsRkRx[i]?).bind (fun o : Oper => o.guard) == some (78, false)) && (skRkRx i == false)))))))))
theorem ktRkRx : ∀ i, i < 93 → kbRkRx i = true := by decide +kernel
theorem keyRkRx : ∀ i, i < 93 → ((opsRkRx[i]?).bind (fun o : Oper => o.guard) = none ∧ skRkRx i = false) ∨ ((opsRkRx[i]?).bind (fun o : Oper => o.guard) = some (8, false) ∧ skRkRx i = false) ∨ ((opsRkRx[i]?).bind (fun o : Oper => o.guard) = some (12, true) ∧ skRkRx i = false) ∨ ((opsRkRx[i]?).bind (fun o : Oper => o.guard) = some (28, false) ∧ skRkRx i = false) ∨ ((opsRkRx[i]?).bind (fun o : Oper => o.guard) = some (32, true) ∧ skRkRx i = false) ∨ ((opsRkRx[i]?).bind (fun o : Oper => o.guard) = some (48, false) ∧ skRkRx i = false) ∨ ((opsRkRx[i]?).bind (fun o : Oper => o.guard) = some (63, false) ∧ skRkRx i = false) ∨ ((opsRkRx[i]?).bind (fun o : Oper => o.guard) = some (78, false) ∧ skRkRx i = false) := fun i hi => by
  have h := ktRkRx i hi
  unfold kbRkRx at h
  simpa only [Bool.or_eq_true, Bool.and_eq_true, beq_iff_eq] using h
theorem hguRkRx {Va Vb Vc Vd Vu Vv Vp ga gb gc gd gu gv gs os n c bm ii kk mm sa sb sc sd su sv s0 : Nat} : ∀ (i : Nat) (o : Oper) (g : Nat) (b : Bool), opsRkRx[i]? = some o → o.guard = some (g, b) → ∀ v x, specAt (spRkRx Va Vb Vc Vd Vu Vv Vp ga gb gc gd gu gv gs os n c bm ii kk mm sa sb sc sd su sv s0) g v x → (v = .bool b ↔ skRkRx i = false) := by
  intro i o g b ho hg v x hf
  have h := keyRkRx i (List.getElem?_eq_some_iff.1 ho).1
  rw [ho] at h
  simp only [Option.bind_some] at h
  rw [hg] at h
  rcases h with ⟨h, _⟩ | ⟨h, hs⟩ | ⟨h, hs⟩ | ⟨h, hs⟩ | ⟨h, hs⟩ | ⟨h, hs⟩ | ⟨h, hs⟩ | ⟨h, hs⟩
  · cases h
  · injection h with h
    injection h with h1 h2
    subst h1 h2
    have hv : v = .bool false := hf
    subst hv
    rw [hs]
    simp
  · injection h with h
    injection h with h1 h2
    subst h1 h2
    have hv : v = .bool true := hf
    subst hv
    rw [hs]
    simp
  · injection h with h
    injection h with h1 h2
    subst h1 h2
    have hv : v = .bool false := hf
    subst hv
    rw [hs]
    simp
  · injection h with h
    injection h with h1 h2
    subst h1 h2
    have hv : v = .bool true := hf
    subst hv
    rw [hs]
    simp
  · injection h with h
    injection h with h1 h2
    subst h1 h2
    have hv : v = .bool false := hf
    subst hv
    rw [hs]
    simp
  · injection h with h
    injection h with h1 h2
    subst h1 h2
    have hv : v = .bool false := hf
    subst hv
    rw [hs]
    simp
  · injection h with h
    injection h with h1 h2
    subst h1 h2
    have hv : v = .bool false := hf
    subst hv
    rw [hs]
    simp
theorem hgnRkRx : ∀ (i : Nat) (o : Oper), opsRkRx[i]? = some o → o.guard = none → skRkRx i = false := by
  intro i o ho hg
  have h := keyRkRx i (List.getElem?_eq_some_iff.1 ho).1
  rw [ho] at h
  simp only [Option.bind_some] at h
  rw [hg] at h
  rcases h with ⟨_, h⟩ | ⟨h, _⟩ | ⟨h, _⟩ | ⟨h, _⟩ | ⟨h, _⟩ | ⟨h, _⟩ | ⟨h, _⟩ | ⟨h, _⟩
  · exact h
  · cases h
  · cases h
  · cases h
  · cases h
  · cases h
  · cases h
  · cases h
theorem hskRkRx {Va Vb Vc Vd Vu Vv Vp ga gb gc gd gu gv gs os n c bm ii kk mm sa sb sc sd su sv s0 : Nat} : ∀ (i : Nat) (x : World), skRkRx i = true → specAt (spRkRx Va Vb Vc Vd Vu Vv Vp ga gb gc gd gu gv gs os n c bm ii kk mm sa sb sc sd su sv s0) i undef x := by
  intro i x h
  cases h
theorem regionRkRx {id : Nat} {l : List Oper} {R : Exit → Act → World → Prop} {a0 : Act} {w : World} {Va Vb Vc Vd Vu Vv Vp ga gb gc gd gu gv gs os n c bm ii kk mm sa sb sc sd su sv s0 : Nat} (hl : l = opsRkRx) (hsz : a0.tmps.size = 308) (E : EnvRkRx a0 w Va Vb Vc Vd Vu Vv Vp ga gb gc gd gu gv gs os n c bm ii kk mm sa sb sc sd su sv s0)
    (hR : ∀ x, Q w x → R .normal (putAll a0 [(202, (.map (some bm))), (203, (.pointer (some ⟨Va, 2, none⟩))), (204, (.slice (some ⟨ga, 0, none⟩) n n)), (205, (.int .i64 (ii : Int))), (206, (.pointer (some ⟨ga, ii, none⟩))), (207, (.int .u32 (sa : Int))), (208, (.int .i64 1)), (209, (.bool false)), (210, (.bool false)), (211, (.int .i64 (kk : Int))), (212, (.int .i64 (mm : Int))), (213, (.bool true)), (214, (.bool true)), (215, (.pointer (some ⟨Va, 2, none⟩))), (216, (.slice (some ⟨ga, 0, none⟩) n n)), (217, (.int .i64 (ii : Int))), (218, (.pointer (some ⟨ga, ii, none⟩))), (219, (.int .u32 (sa : Int))), (220, (.int .u32 ((keyN sa : Nat) : Int))), (221, (.pointer (some ⟨Vb, 2, none⟩))), (222, (.slice (some ⟨gb, 0, none⟩) n n)), (223, (.int .i64 (ii : Int))), (224, (.pointer (some ⟨gb, ii, none⟩))), (225, (.int .u32 (sb : Int))), (226, (.int .u32 ((keyN sb : Nat) : Int))), (227, (.bool false)), (228, (.bool false)), (229, (.bool false)), (230, (.bool false)), (231, (.int .i64 (kk : Int))), (232, (.int .i64 (mm : Int))), (233, (.bool true)), (234, (.bool true)), (235, (.pointer (some ⟨Va, 2, none⟩))), (236, (.slice (some ⟨ga, 0, none⟩) n n)), (237, (.int .i64 (ii : Int))), (238, (.pointer (some ⟨ga, ii, none⟩))), (239, (.int .u32 (sa : Int))), (240, (.int .u32 ((keyN sa : Nat) : Int))), (241, (.pointer (some ⟨Vb, 2, none⟩))), (242, (.slice (some ⟨gb, 0, none⟩) n n)), (243, (.int .i64 (ii : Int))), (244, (.pointer (some ⟨gb, ii, none⟩))), (245, (.int .u32 (sb : Int))), (246, (.int .u32 ((keyN sb : Nat) : Int))), (247, (.bool false)), (248, (.bool false)), (249, (.bool false)), (250, (.bool false)), (251, (.pointer (some ⟨Vc, 2, none⟩))), (252, (.slice (some ⟨gc, 0, none⟩) n n)), (253, (.int .i64 (ii : Int))), (254, (.pointer (some ⟨gc, ii, none⟩))), (255, (.int .u32 (sc : Int))), (256, (.int .u32 ((keyN sc : Nat) : Int))), (257, (.pointer (some ⟨Vd, 2, none⟩))), (258, (.slice (some ⟨gd, 0, none⟩) n n)), (259, (.int .i64 (ii : Int))), (260, (.pointer (some ⟨gd, ii, none⟩))), (261, (.int .u32 (sd : Int))), (262, (.int .u32 ((keyN sd : Nat) : Int))), (263, (.bool false)), (264, (.bool false)), (265, (.bool false)), (266, (.pointer (some ⟨Vu, 2, none⟩))), (267, (.slice (some ⟨gu, 0, none⟩) n n)), (268, (.int .i64 (ii : Int))), (269, (.pointer (some ⟨gu, ii, none⟩))), (270, (.int .u32 (su : Int))), (271, (.int .u32 ((keyN su : Nat) : Int))), (272, (.pointer (some ⟨Vp, 2, none⟩))), (273, (.slice (some ⟨gs, os, none⟩) n c)), (274, (.int .i64 (ii : Int))), (275, (.pointer (some ⟨gs, os + ii, none⟩))), (276, (.int .u32 (s0 : Int))), (277, (.int .u32 ((keyN s0 : Nat) : Int))), (278, (.bool false)), (279, (.bool false)), (280, (.bool false)), (281, (.pointer (some ⟨Vv, 2, none⟩))), (282, (.slice (some ⟨gv, 0, none⟩) n n)), (283, (.int .i64 (ii : Int))), (284, (.pointer (some ⟨gv, ii, none⟩))), (285, (.int .u32 (sv : Int))), (286, (.int .u32 ((keyN sv : Nat) : Int))), (287, (.pointer (some ⟨Vp, 2, none⟩))), (288, (.slice (some ⟨gs, os, none⟩) n c)), (289, (.int .i64 (ii : Int))), (290, (.pointer (some ⟨gs, os + ii, none⟩))), (291, (.int .u32 (s0 : Int))), (292, (.int .u32 ((keyN s0 : Nat) : Int))), (293, (.bool false)), (294, (.bool false))]) x) :
    (Code.region id l.toArray true).wp Try.prog R a0 w := by
  subst hl
  refine wp_region_factsS sRkRx (specAt (spRkRx Va Vb Vc Vd Vu Vv Vp ga gb gc gd gu gv gs os n c bm ii kk mm sa sb sc sd su sv s0)) skRkRx (by kernel_rfl) (by decide +kernel) (by decide +kernel) (fun t ht => ?_) specAt.next hguRkRx hgnRkRx hskRkRx (hopRkRx E) (fun a x q size defers other facts => ?_)
  · rw [hsz]
    revert t
    decide +kernel
  · obtain ⟨v0, t0, f0⟩ := facts 0 202 rfl
    have f0 : v0 = (.map (some bm)) := f0
    subst f0
    obtain ⟨v1, t1, f1⟩ := facts 1 203 rfl
    have f1 : v1 = (.pointer (some ⟨Va, 2, none⟩)) := f1
    subst f1
    obtain ⟨v2, t2, f2⟩ := facts 2 204 rfl
    have f2 : v2 = (.slice (some ⟨ga, 0, none⟩) n n) := f2
    subst f2
    obtain ⟨v3, t3, f3⟩ := facts 3 205 rfl
    have f3 : v3 = (.int .i64 (ii : Int)) := f3
    subst f3
    obtain ⟨v4, t4, f4⟩ := facts 4 206 rfl
    have f4 : v4 = (.pointer (some ⟨ga, ii, none⟩)) := f4
    subst f4
    obtain ⟨v5, t5, f5⟩ := facts 5 207 rfl
    have f5 : v5 = (.int .u32 (sa : Int)) := f5
    subst f5
    obtain ⟨v6, t6, f6⟩ := facts 6 208 rfl
    have f6 : v6 = (.int .i64 1) := f6
    subst f6
    obtain ⟨v7, t7, f7⟩ := facts 7 209 rfl
    have f7 : v7 = (.bool false) := f7
    subst f7
    obtain ⟨v8, t8, f8⟩ := facts 8 210 rfl
    have f8 : v8 = (.bool false) := f8
    subst f8
    obtain ⟨v9, t9, f9⟩ := facts 9 211 rfl
    have f9 : v9 = (.int .i64 (kk : Int)) := f9
    subst f9
    obtain ⟨v10, t10, f10⟩ := facts 10 212 rfl
    have f10 : v10 = (.int .i64 (mm : Int)) := f10
    subst f10
    obtain ⟨v11, t11, f11⟩ := facts 11 213 rfl
    have f11 : v11 = (.bool true) := f11
    subst f11
    obtain ⟨v12, t12, f12⟩ := facts 12 214 rfl
    have f12 : v12 = (.bool true) := f12
    subst f12
    obtain ⟨v13, t13, f13⟩ := facts 13 215 rfl
    have f13 : v13 = (.pointer (some ⟨Va, 2, none⟩)) := f13
    subst f13
    obtain ⟨v14, t14, f14⟩ := facts 14 216 rfl
    have f14 : v14 = (.slice (some ⟨ga, 0, none⟩) n n) := f14
    subst f14
    obtain ⟨v15, t15, f15⟩ := facts 15 217 rfl
    have f15 : v15 = (.int .i64 (ii : Int)) := f15
    subst f15
    obtain ⟨v16, t16, f16⟩ := facts 16 218 rfl
    have f16 : v16 = (.pointer (some ⟨ga, ii, none⟩)) := f16
    subst f16
    obtain ⟨v17, t17, f17⟩ := facts 17 219 rfl
    have f17 : v17 = (.int .u32 (sa : Int)) := f17
    subst f17
    obtain ⟨v18, t18, f18⟩ := facts 18 220 rfl
    have f18 : v18 = (.int .u32 ((keyN sa : Nat) : Int)) := f18
    subst f18
    obtain ⟨v19, t19, f19⟩ := facts 19 221 rfl
    have f19 : v19 = (.pointer (some ⟨Vb, 2, none⟩)) := f19
    subst f19
    obtain ⟨v20, t20, f20⟩ := facts 20 222 rfl
    have f20 : v20 = (.slice (some ⟨gb, 0, none⟩) n n) := f20
    subst f20
    obtain ⟨v21, t21, f21⟩ := facts 21 223 rfl
    have f21 : v21 = (.int .i64 (ii : Int)) := f21
    subst f21
    obtain ⟨v22, t22, f22⟩ := facts 22 224 rfl
    have f22 : v22 = (.pointer (some ⟨gb, ii, none⟩)) := f22
    subst f22
    obtain ⟨v23, t23, f23⟩ := facts 23 225 rfl
    have f23 : v23 = (.int .u32 (sb : Int)) := f23
    subst f23
    obtain ⟨v24, t24, f24⟩ := facts 24 226 rfl
    have f24 : v24 = (.int .u32 ((keyN sb : Nat) : Int)) := f24
    subst f24
    obtain ⟨v25, t25, f25⟩ := facts 25 227 rfl
    have f25 : v25 = (.bool false) := f25
    subst f25
    obtain ⟨v26, t26, f26⟩ := facts 26 228 rfl
    have f26 : v26 = (.bool false) := f26
    subst f26
    obtain ⟨v27, t27, f27⟩ := facts 27 229 rfl
    have f27 : v27 = (.bool false) := f27
    subst f27
    obtain ⟨v28, t28, f28⟩ := facts 28 230 rfl
    have f28 : v28 = (.bool false) := f28
    subst f28
    obtain ⟨v29, t29, f29⟩ := facts 29 231 rfl
    have f29 : v29 = (.int .i64 (kk : Int)) := f29
    subst f29
    obtain ⟨v30, t30, f30⟩ := facts 30 232 rfl
    have f30 : v30 = (.int .i64 (mm : Int)) := f30
    subst f30
    obtain ⟨v31, t31, f31⟩ := facts 31 233 rfl
    have f31 : v31 = (.bool true) := f31
    subst f31
    obtain ⟨v32, t32, f32⟩ := facts 32 234 rfl
    have f32 : v32 = (.bool true) := f32
    subst f32
    obtain ⟨v33, t33, f33⟩ := facts 33 235 rfl
    have f33 : v33 = (.pointer (some ⟨Va, 2, none⟩)) := f33
    subst f33
    obtain ⟨v34, t34, f34⟩ := facts 34 236 rfl
    have f34 : v34 = (.slice (some ⟨ga, 0, none⟩) n n) := f34
    subst f34
    obtain ⟨v35, t35, f35⟩ := facts 35 237 rfl
    have f35 : v35 = (.int .i64 (ii : Int)) := f35
    subst f35
    obtain ⟨v36, t36, f36⟩ := facts 36 238 rfl
    have f36 : v36 = (.pointer (some ⟨ga, ii, none⟩)) := f36
    subst f36
    obtain ⟨v37, t37, f37⟩ := facts 37 239 rfl
    have f37 : v37 = (.int .u32 (sa : Int)) := f37
    subst f37
    obtain ⟨v38, t38, f38⟩ := facts 38 240 rfl
    have f38 : v38 = (.int .u32 ((keyN sa : Nat) : Int)) := f38
    subst f38
    obtain ⟨v39, t39, f39⟩ := facts 39 241 rfl
    have f39 : v39 = (.pointer (some ⟨Vb, 2, none⟩)) := f39
    subst f39
    obtain ⟨v40, t40, f40⟩ := facts 40 242 rfl
    have f40 : v40 = (.slice (some ⟨gb, 0, none⟩) n n) := f40
    subst f40
    obtain ⟨v41, t41, f41⟩ := facts 41 243 rfl
    have f41 : v41 = (.int .i64 (ii : Int)) := f41
    subst f41
    obtain ⟨v42, t42, f42⟩ := facts 42 244 rfl
    have f42 : v42 = (.pointer (some ⟨gb, ii, none⟩)) := f42
    subst f42
    obtain ⟨v43, t43, f43⟩ := facts 43 245 rfl
    have f43 : v43 = (.int .u32 (sb : Int)) := f43
    subst f43
    obtain ⟨v44, t44, f44⟩ := facts 44 246 rfl
    have f44 : v44 = (.int .u32 ((keyN sb : Nat) : Int)) := f44
    subst f44
    obtain ⟨v45, t45, f45⟩ := facts 45 247 rfl
    have f45 : v45 = (.bool false) := f45
    subst f45
    obtain ⟨v46, t46, f46⟩ := facts 46 248 rfl
    have f46 : v46 = (.bool false) := f46
    subst f46
    obtain ⟨v47, t47, f47⟩ := facts 47 249 rfl
    have f47 : v47 = (.bool false) := f47
    subst f47
    obtain ⟨v48, t48, f48⟩ := facts 48 250 rfl
    have f48 : v48 = (.bool false) := f48
    subst f48
    obtain ⟨v49, t49, f49⟩ := facts 49 251 rfl
    have f49 : v49 = (.pointer (some ⟨Vc, 2, none⟩)) := f49
    subst f49
    obtain ⟨v50, t50, f50⟩ := facts 50 252 rfl
    have f50 : v50 = (.slice (some ⟨gc, 0, none⟩) n n) := f50
    subst f50
    obtain ⟨v51, t51, f51⟩ := facts 51 253 rfl
    have f51 : v51 = (.int .i64 (ii : Int)) := f51
    subst f51
    obtain ⟨v52, t52, f52⟩ := facts 52 254 rfl
    have f52 : v52 = (.pointer (some ⟨gc, ii, none⟩)) := f52
    subst f52
    obtain ⟨v53, t53, f53⟩ := facts 53 255 rfl
    have f53 : v53 = (.int .u32 (sc : Int)) := f53
    subst f53
    obtain ⟨v54, t54, f54⟩ := facts 54 256 rfl
    have f54 : v54 = (.int .u32 ((keyN sc : Nat) : Int)) := f54
    subst f54
    obtain ⟨v55, t55, f55⟩ := facts 55 257 rfl
    have f55 : v55 = (.pointer (some ⟨Vd, 2, none⟩)) := f55
    subst f55
    obtain ⟨v56, t56, f56⟩ := facts 56 258 rfl
    have f56 : v56 = (.slice (some ⟨gd, 0, none⟩) n n) := f56
    subst f56
    obtain ⟨v57, t57, f57⟩ := facts 57 259 rfl
    have f57 : v57 = (.int .i64 (ii : Int)) := f57
    subst f57
    obtain ⟨v58, t58, f58⟩ := facts 58 260 rfl
    have f58 : v58 = (.pointer (some ⟨gd, ii, none⟩)) := f58
    subst f58
    obtain ⟨v59, t59, f59⟩ := facts 59 261 rfl
    have f59 : v59 = (.int .u32 (sd : Int)) := f59
    subst f59
    obtain ⟨v60, t60, f60⟩ := facts 60 262 rfl
    have f60 : v60 = (.int .u32 ((keyN sd : Nat) : Int)) := f60
    subst f60
    obtain ⟨v61, t61, f61⟩ := facts 61 263 rfl
    have f61 : v61 = (.bool false) := f61
    subst f61
    obtain ⟨v62, t62, f62⟩ := facts 62 264 rfl
    have f62 : v62 = (.bool false) := f62
    subst f62
    obtain ⟨v63, t63, f63⟩ := facts 63 265 rfl
    have f63 : v63 = (.bool false) := f63
    subst f63
    obtain ⟨v64, t64, f64⟩ := facts 64 266 rfl
    have f64 : v64 = (.pointer (some ⟨Vu, 2, none⟩)) := f64
    subst f64
    obtain ⟨v65, t65, f65⟩ := facts 65 267 rfl
    have f65 : v65 = (.slice (some ⟨gu, 0, none⟩) n n) := f65
    subst f65
    obtain ⟨v66, t66, f66⟩ := facts 66 268 rfl
    have f66 : v66 = (.int .i64 (ii : Int)) := f66
    subst f66
    obtain ⟨v67, t67, f67⟩ := facts 67 269 rfl
    have f67 : v67 = (.pointer (some ⟨gu, ii, none⟩)) := f67
    subst f67
    obtain ⟨v68, t68, f68⟩ := facts 68 270 rfl
    have f68 : v68 = (.int .u32 (su : Int)) := f68
    subst f68
    obtain ⟨v69, t69, f69⟩ := facts 69 271 rfl
    have f69 : v69 = (.int .u32 ((keyN su : Nat) : Int)) := f69
    subst f69
    obtain ⟨v70, t70, f70⟩ := facts 70 272 rfl
    have f70 : v70 = (.pointer (some ⟨Vp, 2, none⟩)) := f70
    subst f70
    obtain ⟨v71, t71, f71⟩ := facts 71 273 rfl
    have f71 : v71 = (.slice (some ⟨gs, os, none⟩) n c) := f71
    subst f71
    obtain ⟨v72, t72, f72⟩ := facts 72 274 rfl
    have f72 : v72 = (.int .i64 (ii : Int)) := f72
    subst f72
    obtain ⟨v73, t73, f73⟩ := facts 73 275 rfl
    have f73 : v73 = (.pointer (some ⟨gs, os + ii, none⟩)) := f73
    subst f73
    obtain ⟨v74, t74, f74⟩ := facts 74 276 rfl
    have f74 : v74 = (.int .u32 (s0 : Int)) := f74
    subst f74
    obtain ⟨v75, t75, f75⟩ := facts 75 277 rfl
    have f75 : v75 = (.int .u32 ((keyN s0 : Nat) : Int)) := f75
    subst f75
    obtain ⟨v76, t76, f76⟩ := facts 76 278 rfl
    have f76 : v76 = (.bool false) := f76
    subst f76
    obtain ⟨v77, t77, f77⟩ := facts 77 279 rfl
    have f77 : v77 = (.bool false) := f77
    subst f77
    obtain ⟨v78, t78, f78⟩ := facts 78 280 rfl
    have f78 : v78 = (.bool false) := f78
    subst f78
    obtain ⟨v79, t79, f79⟩ := facts 79 281 rfl
    have f79 : v79 = (.pointer (some ⟨Vv, 2, none⟩)) := f79
    subst f79
    obtain ⟨v80, t80, f80⟩ := facts 80 282 rfl
    have f80 : v80 = (.slice (some ⟨gv, 0, none⟩) n n) := f80
    subst f80
    obtain ⟨v81, t81, f81⟩ := facts 81 283 rfl
    have f81 : v81 = (.int .i64 (ii : Int)) := f81
    subst f81
    obtain ⟨v82, t82, f82⟩ := facts 82 284 rfl
    have f82 : v82 = (.pointer (some ⟨gv, ii, none⟩)) := f82
    subst f82
    obtain ⟨v83, t83, f83⟩ := facts 83 285 rfl
    have f83 : v83 = (.int .u32 (sv : Int)) := f83
    subst f83
    obtain ⟨v84, t84, f84⟩ := facts 84 286 rfl
    have f84 : v84 = (.int .u32 ((keyN sv : Nat) : Int)) := f84
    subst f84
    obtain ⟨v85, t85, f85⟩ := facts 85 287 rfl
    have f85 : v85 = (.pointer (some ⟨Vp, 2, none⟩)) := f85
    subst f85
    obtain ⟨v86, t86, f86⟩ := facts 86 288 rfl
    have f86 : v86 = (.slice (some ⟨gs, os, none⟩) n c) := f86
    subst f86
    obtain ⟨v87, t87, f87⟩ := facts 87 289 rfl
    have f87 : v87 = (.int .i64 (ii : Int)) := f87
    subst f87
    obtain ⟨v88, t88, f88⟩ := facts 88 290 rfl
    have f88 : v88 = (.pointer (some ⟨gs, os + ii, none⟩)) := f88
    subst f88
    obtain ⟨v89, t89, f89⟩ := facts 89 291 rfl
    have f89 : v89 = (.int .u32 (s0 : Int)) := f89
    subst f89
    obtain ⟨v90, t90, f90⟩ := facts 90 292 rfl
    have f90 : v90 = (.int .u32 ((keyN s0 : Nat) : Int)) := f90
    subst f90
    obtain ⟨v91, t91, f91⟩ := facts 91 293 rfl
    have f91 : v91 = (.bool false) := f91
    subst f91
    obtain ⟨v92, t92, f92⟩ := facts 92 294 rfl
    have f92 : v92 = (.bool false) := f92
    subst f92
    have hA := act_puts (a := a) (a0 := a0) [(202, (.map (some bm))), (203, (.pointer (some ⟨Va, 2, none⟩))), (204, (.slice (some ⟨ga, 0, none⟩) n n)), (205, (.int .i64 (ii : Int))), (206, (.pointer (some ⟨ga, ii, none⟩))), (207, (.int .u32 (sa : Int))), (208, (.int .i64 1)), (209, (.bool false)), (210, (.bool false)), (211, (.int .i64 (kk : Int))), (212, (.int .i64 (mm : Int))), (213, (.bool true)), (214, (.bool true)), (215, (.pointer (some ⟨Va, 2, none⟩))), (216, (.slice (some ⟨ga, 0, none⟩) n n)), (217, (.int .i64 (ii : Int))), (218, (.pointer (some ⟨ga, ii, none⟩))), (219, (.int .u32 (sa : Int))), (220, (.int .u32 ((keyN sa : Nat) : Int))), (221, (.pointer (some ⟨Vb, 2, none⟩))), (222, (.slice (some ⟨gb, 0, none⟩) n n)), (223, (.int .i64 (ii : Int))), (224, (.pointer (some ⟨gb, ii, none⟩))), (225, (.int .u32 (sb : Int))), (226, (.int .u32 ((keyN sb : Nat) : Int))), (227, (.bool false)), (228, (.bool false)), (229, (.bool false)), (230, (.bool false)), (231, (.int .i64 (kk : Int))), (232, (.int .i64 (mm : Int))), (233, (.bool true)), (234, (.bool true)), (235, (.pointer (some ⟨Va, 2, none⟩))), (236, (.slice (some ⟨ga, 0, none⟩) n n)), (237, (.int .i64 (ii : Int))), (238, (.pointer (some ⟨ga, ii, none⟩))), (239, (.int .u32 (sa : Int))), (240, (.int .u32 ((keyN sa : Nat) : Int))), (241, (.pointer (some ⟨Vb, 2, none⟩))), (242, (.slice (some ⟨gb, 0, none⟩) n n)), (243, (.int .i64 (ii : Int))), (244, (.pointer (some ⟨gb, ii, none⟩))), (245, (.int .u32 (sb : Int))), (246, (.int .u32 ((keyN sb : Nat) : Int))), (247, (.bool false)), (248, (.bool false)), (249, (.bool false)), (250, (.bool false)), (251, (.pointer (some ⟨Vc, 2, none⟩))), (252, (.slice (some ⟨gc, 0, none⟩) n n)), (253, (.int .i64 (ii : Int))), (254, (.pointer (some ⟨gc, ii, none⟩))), (255, (.int .u32 (sc : Int))), (256, (.int .u32 ((keyN sc : Nat) : Int))), (257, (.pointer (some ⟨Vd, 2, none⟩))), (258, (.slice (some ⟨gd, 0, none⟩) n n)), (259, (.int .i64 (ii : Int))), (260, (.pointer (some ⟨gd, ii, none⟩))), (261, (.int .u32 (sd : Int))), (262, (.int .u32 ((keyN sd : Nat) : Int))), (263, (.bool false)), (264, (.bool false)), (265, (.bool false)), (266, (.pointer (some ⟨Vu, 2, none⟩))), (267, (.slice (some ⟨gu, 0, none⟩) n n)), (268, (.int .i64 (ii : Int))), (269, (.pointer (some ⟨gu, ii, none⟩))), (270, (.int .u32 (su : Int))), (271, (.int .u32 ((keyN su : Nat) : Int))), (272, (.pointer (some ⟨Vp, 2, none⟩))), (273, (.slice (some ⟨gs, os, none⟩) n c)), (274, (.int .i64 (ii : Int))), (275, (.pointer (some ⟨gs, os + ii, none⟩))), (276, (.int .u32 (s0 : Int))), (277, (.int .u32 ((keyN s0 : Nat) : Int))), (278, (.bool false)), (279, (.bool false)), (280, (.bool false)), (281, (.pointer (some ⟨Vv, 2, none⟩))), (282, (.slice (some ⟨gv, 0, none⟩) n n)), (283, (.int .i64 (ii : Int))), (284, (.pointer (some ⟨gv, ii, none⟩))), (285, (.int .u32 (sv : Int))), (286, (.int .u32 ((keyN sv : Nat) : Int))), (287, (.pointer (some ⟨Vp, 2, none⟩))), (288, (.slice (some ⟨gs, os, none⟩) n c)), (289, (.int .i64 (ii : Int))), (290, (.pointer (some ⟨gs, os + ii, none⟩))), (291, (.int .u32 (s0 : Int))), (292, (.int .u32 ((keyN s0 : Nat) : Int))), (293, (.bool false)), (294, (.bool false))] (by show [202, 203, 204, 205, 206, 207, 208, 209, 210, 211, 212, 213, 214, 215, 216, 217, 218, 219, 220, 221, 222, 223, 224, 225, 226, 227, 228, 229, 230, 231, 232, 233, 234, 235, 236, 237, 238, 239, 240, 241, 242, 243, 244, 245, 246, 247, 248, 249, 250, 251, 252, 253, 254, 255, 256, 257, 258, 259, 260, 261, 262, 263, 264, 265, 266, 267, 268, 269, 270, 271, 272, 273, 274, 275, 276, 277, 278, 279, 280, 281, 282, 283, 284, 285, 286, 287, 288, 289, 290, 291, 292, 293, 294].Nodup; decide +kernel) size defers (fun j hj => other j (fun hk => hj hk)) (fun r hr => by
      simp only [List.mem_cons, List.not_mem_nil, or_false] at hr
      rcases hr with rfl | rfl | rfl | rfl | rfl | rfl | rfl | rfl | rfl | rfl | rfl | rfl | rfl | rfl | rfl | rfl | rfl | rfl | rfl | rfl | rfl | rfl | rfl | rfl | rfl | rfl | rfl | rfl | rfl | rfl | rfl | rfl | rfl | rfl | rfl | rfl | rfl | rfl | rfl | rfl | rfl | rfl | rfl | rfl | rfl | rfl | rfl | rfl | rfl | rfl | rfl | rfl | rfl | rfl | rfl | rfl | rfl | rfl | rfl | rfl | rfl | rfl | rfl | rfl | rfl | rfl | rfl | rfl | rfl | rfl | rfl | rfl | rfl | rfl | rfl | rfl | rfl | rfl | rfl | rfl | rfl | rfl | rfl | rfl | rfl | rfl | rfl | rfl | rfl | rfl | rfl | rfl | rfl
      · exact t0
      · exact t1
      · exact t2
      · exact t3
      · exact t4
      · exact t5
      · exact t6
      · exact t7
      · exact t8
      · exact t9
      · exact t10
      · exact t11
      · exact t12
      · exact t13
      · exact t14
      · exact t15
      · exact t16
      · exact t17
      · exact t18
      · exact t19
      · exact t20
      · exact t21
      · exact t22
      · exact t23
      · exact t24
      · exact t25
      · exact t26
      · exact t27
      · exact t28
      · exact t29
      · exact t30
      · exact t31
      · exact t32
      · exact t33
      · exact t34
      · exact t35
      · exact t36
      · exact t37
      · exact t38
      · exact t39
      · exact t40
      · exact t41
      · exact t42
      · exact t43
      · exact t44
      · exact t45
      · exact t46
      · exact t47
      · exact t48
      · exact t49
      · exact t50
      · exact t51
      · exact t52
      · exact t53
      · exact t54
      · exact t55
      · exact t56
      · exact t57
      · exact t58
      · exact t59
      · exact t60
      · exact t61
      · exact t62
      · exact t63
      · exact t64
      · exact t65
      · exact t66
      · exact t67
      · exact t68
      · exact t69
      · exact t70
      · exact t71
      · exact t72
      · exact t73
      · exact t74
      · exact t75
      · exact t76
      · exact t77
      · exact t78
      · exact t79
      · exact t80
      · exact t81
      · exact t82
      · exact t83
      · exact t84
      · exact t85
      · exact t86
      · exact t87
      · exact t88
      · exact t89
      · exact t90
      · exact t91
      · exact t92)
    rw [hA]
    exact ⟨hR x q⟩
theorem normRkRx {t0 t1 t2 t3 t4 t5 t6 t7 t8 t9 t10 t11 t12 t13 t14 t15 t16 t17 t18 t19 t20 t21 t22 t23 t24 t25 t26 t27 t28 t29 t30 t31 t32 t33 t34 t35 t36 t37 t38 t39 t40 t41 t42 t43 t44 t45 t46 t47 t48 t49 t50 t51 t52 t53 t54 t55 t56 t57 t58 t59 t60 t61 t62 t63 t64 t65 t66 t67 t68 t69 t70 t71 t72 t73 t74 t75 t76 t77 t78 t79 t80 t81 t82 t83 t84 t85 t86 t87 t88 t89 t90 t91 t92 t93 t94 t95 t96 t97 t98 t99 t100 t101 t102 t103 t104 t105 t106 t107 t108 t109 t110 t111 t112 t113 t114 t115 t116 t117 t118 t119 t120 t121 t122 t123 t124 t125 t126 t127 t128 t129 t130 t131 t132 t133 t134 t135 t136 t137 t138 t139 t140 t141 t142 t143 t144 t145 t146 t147 t148 t149 t150 t151 t152 t153 t154 t155 t156 t157 t158 t159 t160 t161 t162 t163 t164 t165 t166 t167 t168 t169 t170 t171 t172 t173 t174 t175 t176 t177 t178 t179 t180 t181 t182 t183 t184 t185 t186 t187 t188 t189 t190 t191 t192 t193 t194 t195 t196 t197 t198 t199 t200 t201 t202 t203 t204 t205 t206 t207 t208 t209 t210 t211 t212 t213 t214 t215 t216 t217 t218 t219 t220 t221 t222 t223 t224 t225 t226 t227 t228 t229 t230 t231 t232 t233 t234 t235 t236 t237 t238 t239 t240 t241 t242 t243 t244 t245 t246 t247 t248 t249 t250 t251 t252 t253 t254 t255 t256 t257 t258 t259 t260 t261 t262 t263 t264 t265 t266 t267 t268 t269 t270 t271 t272 t273 t274 t275 t276 t277 t278 t279 t280 t281 t282 t283 t284 t285 t286 t287 t288 t289 t290 t291 t292 t293 t294 t295 t296 t297 t298 t299 t300 t301 t302 t303 t304 t305 t306 t307 : Value} {d : List Deferred} {Va Vb Vc Vd Vu Vv Vp ga gb gc gd gu gv gs os n c bm ii kk mm sa sb sc sd su sv s0 : Nat} : putAll ⟨#[t0, t1, t2, t3, t4, t5, t6, t7, t8, t9, t10, t11, t12, t13, t14, t15, t16, t17, t18, t19, t20, t21, t22, t23, t24, t25, t26, t27, t28, t29, t30, t31, t32, t33, t34, t35, t36, t37, t38, t39, t40, t41, t42, t43, t44, t45, t46, t47, t48, t49, t50, t51, t52, t53, t54, t55, t56, t57, t58, t59, t60, t61, t62, t63, t64, t65, t66, t67, t68, t69, t70, t71, t72, t73, t74, t75, t76, t77, t78, t79, t80, t81, t82, t83, t84, t85, t86, t87, t88, t89, t90, t91, t92, t93, t94, t95, t96, t97, t98, t99, t100, t101, t102, t103, t104, t105, t106, t107, t108, t109, t110, t111, t112, t113, t114, t115, t116, t117, t118, t119, t120, t121, t122, t123, t124, t125, t126, t127, t128, t129, t130, t131, t132, t133, t134, t135, t136, t137, t138, t139, t140, t141, t142, t143, t144, t145, t146, t147, t148, t149, t150, t151, t152, t153, t154, t155, t156, t157, t158, t159, t160, t161, t162, t163, t164, t165, t166, t167, t168, t169, t170, t171, t172, t173, t174, t175, t176, t177, t178, t179, t180, t181, t182, t183, t184, t185, t186, t187, t188, t189, t190, t191, t192, t193, t194, t195, t196, t197, t198, t199, t200, t201, t202, t203, t204, t205, t206, t207, t208, t209, t210, t211, t212, t213, t214, t215, t216, t217, t218, t219, t220, t221, t222, t223, t224, t225, t226, t227, t228, t229, t230, t231, t232, t233, t234, t235, t236, t237, t238, t239, t240, t241, t242, t243, t244, t245, t246, t247, t248, t249, t250, t251, t252, t253, t254, t255, t256, t257, t258, t259, t260, t261, t262, t263, t264, t265, t266, t267, t268, t269, t270, t271, t272, t273, t274, t275, t276, t277, t278, t279, t280, t281, t282, t283, t284, t285, t286, t287, t288, t289, t290, t291, t292, t293, t294, t295, t296, t297, t298, t299, t300, t301, t302, t303, t304, t305, t306, t307], d⟩ [(202, (.map (some bm))), (203, (.pointer (some ⟨Va, 2, none⟩))), (204, (.slice (some ⟨ga, 0, none⟩) n n)), (205, (.int .i64 (ii : Int))), (206, (.pointer (some ⟨ga, ii, none⟩))), (207, (.int .u32 (sa : Int))), (208, (.int .i64 1)), (209, (.bool false)), (210, (.bool false)), (211, (.int .i64 (kk : Int))), (212, (.int .i64 (mm : Int))), (213, (.bool true)), (214, (.bool true)), (215, (.pointer (some ⟨Va, 2, none⟩))), (216, (.slice (some ⟨ga, 0, none⟩) n n)), (217, (.int .i64 (ii : Int))), (218, (.pointer (some ⟨ga, ii, none⟩))), (219, (.int .u32 (sa : Int))), (220, (.int .u32 ((keyN sa : Nat) : Int))), (221, (.pointer (some ⟨Vb, 2, none⟩))), (222, (.slice (some ⟨gb, 0, none⟩) n n)), (223, (.int .i64 (ii : Int))), (224, (.pointer (some ⟨gb, ii, none⟩))), (225, (.int .u32 (sb : Int))), (226, (.int .u32 ((keyN sb : Nat) : Int))), (227, (.bool false)), (228, (.bool false)), (229, (.bool false)), (230, (.bool false)), (231, (.int .i64 (kk : Int))), (232, (.int .i64 (mm : Int))), (233, (.bool true)), (234, (.bool true)), (235, (.pointer (some ⟨Va, 2, none⟩))), (236, (.slice (some ⟨ga, 0, none⟩) n n)), (237, (.int .i64 (ii : Int))), (238, (.pointer (some ⟨ga, ii, none⟩))), (239, (.int .u32 (sa : Int))), (240, (.int .u32 ((keyN sa : Nat) : Int))), (241, (.pointer (some ⟨Vb, 2, none⟩))), (242, (.slice (some ⟨gb, 0, none⟩) n n)), (243, (.int .i64 (ii : Int))), (244, (.pointer (some ⟨gb, ii, none⟩))), (245, (.int .u32 (sb : Int))), (246, (.int .u32 ((keyN sb : Nat) : Int))), (247, (.bool false)), (248, (.bool false)), (249, (.bool false)), (250, (.bool false)), (251, (.pointer (some ⟨Vc, 2, none⟩))), (252, (.slice (some ⟨gc, 0, none⟩) n n)), (253, (.int .i64 (ii : Int))), (254, (.pointer (some ⟨gc, ii, none⟩))), (255, (.int .u32 (sc : Int))), (256, (.int .u32 ((keyN sc : Nat) : Int))), (257, (.pointer (some ⟨Vd, 2, none⟩))), (258, (.slice (some ⟨gd, 0, none⟩) n n)), (259, (.int .i64 (ii : Int))), (260, (.pointer (some ⟨gd, ii, none⟩))), (261, (.int .u32 (sd : Int))), (262, (.int .u32 ((keyN sd : Nat) : Int))), (263, (.bool false)), (264, (.bool false)), (265, (.bool false)), (266, (.pointer (some ⟨Vu, 2, none⟩))), (267, (.slice (some ⟨gu, 0, none⟩) n n)), (268, (.int .i64 (ii : Int))), (269, (.pointer (some ⟨gu, ii, none⟩))), (270, (.int .u32 (su : Int))), (271, (.int .u32 ((keyN su : Nat) : Int))), (272, (.pointer (some ⟨Vp, 2, none⟩))), (273, (.slice (some ⟨gs, os, none⟩) n c)), (274, (.int .i64 (ii : Int))), (275, (.pointer (some ⟨gs, os + ii, none⟩))), (276, (.int .u32 (s0 : Int))), (277, (.int .u32 ((keyN s0 : Nat) : Int))), (278, (.bool false)), (279, (.bool false)), (280, (.bool false)), (281, (.pointer (some ⟨Vv, 2, none⟩))), (282, (.slice (some ⟨gv, 0, none⟩) n n)), (283, (.int .i64 (ii : Int))), (284, (.pointer (some ⟨gv, ii, none⟩))), (285, (.int .u32 (sv : Int))), (286, (.int .u32 ((keyN sv : Nat) : Int))), (287, (.pointer (some ⟨Vp, 2, none⟩))), (288, (.slice (some ⟨gs, os, none⟩) n c)), (289, (.int .i64 (ii : Int))), (290, (.pointer (some ⟨gs, os + ii, none⟩))), (291, (.int .u32 (s0 : Int))), (292, (.int .u32 ((keyN s0 : Nat) : Int))), (293, (.bool false)), (294, (.bool false))] = ⟨#[t0, t1, t2, t3, t4, t5, t6, t7, t8, t9, t10, t11, t12, t13, t14, t15, t16, t17, t18, t19, t20, t21, t22, t23, t24, t25, t26, t27, t28, t29, t30, t31, t32, t33, t34, t35, t36, t37, t38, t39, t40, t41, t42, t43, t44, t45, t46, t47, t48, t49, t50, t51, t52, t53, t54, t55, t56, t57, t58, t59, t60, t61, t62, t63, t64, t65, t66, t67, t68, t69, t70, t71, t72, t73, t74, t75, t76, t77, t78, t79, t80, t81, t82, t83, t84, t85, t86, t87, t88, t89, t90, t91, t92, t93, t94, t95, t96, t97, t98, t99, t100, t101, t102, t103, t104, t105, t106, t107, t108, t109, t110, t111, t112, t113, t114, t115, t116, t117, t118, t119, t120, t121, t122, t123, t124, t125, t126, t127, t128, t129, t130, t131, t132, t133, t134, t135, t136, t137, t138, t139, t140, t141, t142, t143, t144, t145, t146, t147, t148, t149, t150, t151, t152, t153, t154, t155, t156, t157, t158, t159, t160, t161, t162, t163, t164, t165, t166, t167, t168, t169, t170, t171, t172, t173, t174, t175, t176, t177, t178, t179, t180, t181, t182, t183, t184, t185, t186, t187, t188, t189, t190, t191, t192, t193, t194, t195, t196, t197, t198, t199, t200, t201, (.map (some bm)), (.pointer (some ⟨Va, 2, none⟩)), (.slice (some ⟨ga, 0, none⟩) n n), (.int .i64 (ii : Int)), (.pointer (some ⟨ga, ii, none⟩)), (.int .u32 (sa : Int)), (.int .i64 1), (.bool false), (.bool false), (.int .i64 (kk : Int)), (.int .i64 (mm : Int)), (.bool true), (.bool true), (.pointer (some ⟨Va, 2, none⟩)), (.slice (some ⟨ga, 0, none⟩) n n), (.int .i64 (ii : Int)), (.pointer (some ⟨ga, ii, none⟩)), (.int .u32 (sa : Int)), (.int .u32 ((keyN sa : Nat) : Int)), (.pointer (some ⟨Vb, 2, none⟩)), (.slice (some ⟨gb, 0, none⟩) n n), (.int .i64 (ii : Int)), (.pointer (some ⟨gb, ii, none⟩)), (.int .u32 (sb : Int)), (.int .u32 ((keyN sb : Nat) : Int)), (.bool false), (.bool false), (.bool false), (.bool false), (.int .i64 (kk : Int)), (.int .i64 (mm : Int)), (.bool true), (.bool true), (.pointer (some ⟨Va, 2, none⟩)), (.slice (some ⟨ga, 0, none⟩) n n), (.int .i64 (ii : Int)), (.pointer (some ⟨ga, ii, none⟩)), (.int .u32 (sa : Int)), (.int .u32 ((keyN sa : Nat) : Int)), (.pointer (some ⟨Vb, 2, none⟩)), (.slice (some ⟨gb, 0, none⟩) n n), (.int .i64 (ii : Int)), (.pointer (some ⟨gb, ii, none⟩)), (.int .u32 (sb : Int)), (.int .u32 ((keyN sb : Nat) : Int)), (.bool false), (.bool false), (.bool false), (.bool false), (.pointer (some ⟨Vc, 2, none⟩)), (.slice (some ⟨gc, 0, none⟩) n n), (.int .i64 (ii : Int)), (.pointer (some ⟨gc, ii, none⟩)), (.int .u32 (sc : Int)), (.int .u32 ((keyN sc : Nat) : Int)), (.pointer (some ⟨Vd, 2, none⟩)), (.slice (some ⟨gd, 0, none⟩) n n), (.int .i64 (ii : Int)), (.pointer (some ⟨gd, ii, none⟩)), (.int .u32 (sd : Int)), (.int .u32 ((keyN sd : Nat) : Int)), (.bool false), (.bool false), (.bool false), (.pointer (some ⟨Vu, 2, none⟩)), (.slice (some ⟨gu, 0, none⟩) n n), (.int .i64 (ii : Int)), (.pointer (some ⟨gu, ii, none⟩)), (.int .u32 (su : Int)), (.int .u32 ((keyN su : Nat) : Int)), (.pointer (some ⟨Vp, 2, none⟩)), (.slice (some ⟨gs, os, none⟩) n c), (.int .i64 (ii : Int)), (.pointer (some ⟨gs, os + ii, none⟩)), (.int .u32 (s0 : Int)), (.int .u32 ((keyN s0 : Nat) : Int)), (.bool false), (.bool false), (.bool false), (.pointer (some ⟨Vv, 2, none⟩)), (.slice (some ⟨gv, 0, none⟩) n n), (.int .i64 (ii : Int)), (.pointer (some ⟨gv, ii, none⟩)), (.int .u32 (sv : Int)), (.int .u32 ((keyN sv : Nat) : Int)), (.pointer (some ⟨Vp, 2, none⟩)), (.slice (some ⟨gs, os, none⟩) n c), (.int .i64 (ii : Int)), (.pointer (some ⟨gs, os + ii, none⟩)), (.int .u32 (s0 : Int)), (.int .u32 ((keyN s0 : Nat) : Int)), (.bool false), (.bool false), t295, t296, t297, t298, t299, t300, t301, t302, t303, t304, t305, t306, t307], d⟩ := by kernel_rfl
end Go.Proofs.Ytikhmlcmmabapaa
