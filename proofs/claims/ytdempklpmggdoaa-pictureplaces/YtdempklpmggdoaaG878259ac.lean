/- Is a picture a piece of another? -/
import Derived.Test.YtdempklpmggdoaaGb36ba390
import Derived.Test.YtdempklpmggdoaaG9703327c
namespace Go.Proofs.Ytdempklpmggdoaa
open Go.RowKit
set_option linter.unusedVariables false
set_option linter.unusedSimpArgs false

def CrP (sp : Int) (nn aa x0 y0 cc dd : Nat) (L : List PL) (v : Value) (x : World) : Prop := ∃ g' cap' M, v = .agg #[.int .i64 sp, .slice (some ⟨g', 0, none⟩) nn cap'] ∧ nn ≤ cap' ∧ Pc x g' 0 cc dd M ∧ M.map PL.S = (L.map PL.S).map (cutL aa x0 y0 cc dd)
def CrS (sp : Int) (nn aa x0 y0 cc dd : Nat) (L : List PL) : Spec := ⟨fun v x => CrP sp nn aa x0 y0 cc dd L v x, fun ⟨g', cap', M, h1, h2, h3, h4⟩ q => ⟨g', cap', M, h1, h2, h3.next q, h4⟩⟩
def oPc8_0 : Oper := { dst := some 7, op := .fieldAddr 24 (.tmp 3) 1, type := 0, pos := "whatfor.go:78", after := #[], guard := none }
def oPc8_1 : Oper := { dst := some 8, op := .load 22 (.tmp 7), type := 22, pos := "whatfor.go:78", after := #[⟨0, .data⟩], guard := none }
def oPc8_2 : Oper := { dst := some 9, op := .call { callee := .builtin .len, args := #[.tmp 8], argTypes := #[22] }, type := 3, pos := "whatfor.go:78", after := #[⟨1, .data⟩], guard := none }
def oPc8_3 : Oper := { dst := some 10, op := .binOp .gtr 3 (.tmp 9) (.const (.int .i64 0)) 3, type := 4, pos := "whatfor.go:78", after := #[⟨2, .data⟩], guard := none }
def oPc8_4 : Oper := { dst := some 11, op := .move (.tmp 10), type := 4, pos := "whatfor.go:78", after := #[⟨3, .data⟩], guard := none }
def oPc8_5 : Oper := { dst := some 12, op := .fieldAddr 24 (.tmp 3) 1, type := 0, pos := "whatfor.go:78", after := #[⟨4, .guard⟩], guard := some (4, true) }
def oPc8_6 : Oper := { dst := some 13, op := .load 22 (.tmp 12), type := 22, pos := "whatfor.go:78", after := #[⟨5, .data⟩, ⟨4, .guard⟩], guard := some (4, true) }
def oPc8_7 : Oper := { dst := some 14, op := .indexAddr 22 (.tmp 13) (.const (.int .i64 0)), type := 0, pos := "whatfor.go:78", after := #[⟨6, .data⟩, ⟨4, .guard⟩], guard := some (4, true) }
def oPc8_8 : Oper := { dst := some 15, op := .fieldAddr 47 (.tmp 14) 0, type := 0, pos := "whatfor.go:78", after := #[⟨7, .data⟩, ⟨4, .guard⟩], guard := some (4, true) }
def oPc8_9 : Oper := { dst := some 16, op := .load 3 (.tmp 15), type := 3, pos := "whatfor.go:78", after := #[⟨8, .data⟩, ⟨4, .guard⟩], guard := some (4, true) }
def oPc8_10 : Oper := { dst := some 17, op := .fieldAddr 24 (.tmp 3) 1, type := 0, pos := "whatfor.go:78", after := #[⟨4, .guard⟩], guard := some (4, true) }
def oPc8_11 : Oper := { dst := some 18, op := .load 22 (.tmp 17), type := 22, pos := "whatfor.go:78", after := #[⟨10, .data⟩, ⟨4, .guard⟩], guard := some (4, true) }
def oPc8_12 : Oper := { dst := some 19, op := .indexAddr 22 (.tmp 18) (.const (.int .i64 0)), type := 0, pos := "whatfor.go:78", after := #[⟨11, .data⟩, ⟨4, .guard⟩], guard := some (4, true) }
def oPc8_13 : Oper := { dst := some 20, op := .fieldAddr 47 (.tmp 19) 1, type := 0, pos := "whatfor.go:78", after := #[⟨12, .data⟩, ⟨4, .guard⟩], guard := some (4, true) }
def oPc8_14 : Oper := { dst := some 21, op := .load 3 (.tmp 20), type := 3, pos := "whatfor.go:78", after := #[⟨13, .data⟩, ⟨4, .guard⟩], guard := some (4, true) }
def oPc8_15 : Oper := { dst := some 22, op := .load 26 (.tmp 4), type := 26, pos := "whatfor.go:78", after := #[⟨4, .guard⟩], guard := some (4, true) }
def oPc8_16 : Oper := { dst := some 23, op := .call { callee := .value (.func 26), args := #[.tmp 16, .tmp 21, .tmp 22], argTypes := #[3, 3, 26] }, type := 4, pos := "whatfor.go:78", after := #[⟨9, .data⟩, ⟨14, .data⟩, ⟨15, .data⟩, ⟨4, .chain⟩, ⟨4, .guard⟩], guard := some (4, true) }
def oPc8_17 : Oper := { dst := some 24, op := .pick (.tmp 11) (.tmp 23) (.const (.bool false)), type := 4, pos := "whatfor.go:78", after := #[⟨4, .data⟩, ⟨16, .data⟩], guard := none }
def oPc8_18 : Oper := { dst := some 25, op := .move (.tmp 24), type := 4, pos := "whatfor.go:78", after := #[⟨17, .data⟩, ⟨16, .chain⟩], guard := none }
def oPc8_19 : Oper := { dst := some 26, op := .load 24 (.tmp 3), type := 24, pos := "whatfor.go:78", after := #[⟨18, .guard⟩], guard := some (18, true) }
def oPc8_20 : Oper := { dst := some 27, op := .load 26 (.tmp 4), type := 26, pos := "whatfor.go:78", after := #[⟨18, .guard⟩], guard := some (18, true) }
def oPc8_21 : Oper := { dst := some 28, op := .call { callee := .value (.func 27), args := #[.tmp 26, .tmp 27], argTypes := #[24, 26] }, type := 24, pos := "whatfor.go:78", after := #[⟨19, .data⟩, ⟨20, .data⟩, ⟨18, .chain⟩, ⟨18, .guard⟩], guard := some (18, true) }
def oPc8_22 : Oper := { dst := some 29, op := .load 24 (.tmp 5), type := 24, pos := "whatfor.go:78", after := #[⟨18, .guard⟩], guard := some (18, true) }
def oPc8_23 : Oper := { dst := some 30, op := .call { callee := .value (.func 16), args := #[.tmp 28, .tmp 29], argTypes := #[24, 24] }, type := 4, pos := "whatfor.go:78", after := #[⟨21, .data⟩, ⟨22, .data⟩, ⟨21, .chain⟩, ⟨18, .guard⟩], guard := some (18, true) }
def oPc8_24 : Oper := { dst := some 31, op := .pick (.tmp 25) (.tmp 30) (.const (.bool false)), type := 4, pos := "whatfor.go:78", after := #[⟨18, .data⟩, ⟨23, .data⟩], guard := none }
def oPc8_25 : Oper := { dst := some 6, op := .assign (.tmp 31), type := 4, pos := "whatfor.go:78", after := #[⟨24, .data⟩, ⟨23, .chain⟩, ⟨0, .phase⟩, ⟨1, .phase⟩, ⟨2, .phase⟩, ⟨3, .phase⟩, ⟨4, .phase⟩, ⟨5, .phase⟩, ⟨6, .phase⟩, ⟨7, .phase⟩, ⟨8, .phase⟩, ⟨9, .phase⟩, ⟨10, .phase⟩, ⟨11, .phase⟩, ⟨12, .phase⟩, ⟨13, .phase⟩, ⟨14, .phase⟩, ⟨15, .phase⟩, ⟨16, .phase⟩, ⟨17, .phase⟩, ⟨18, .phase⟩, ⟨19, .phase⟩, ⟨20, .phase⟩, ⟨21, .phase⟩, ⟨22, .phase⟩, ⟨23, .phase⟩, ⟨24, .phase⟩], guard := none }
def opsPc8 : List Oper := [oPc8_0, oPc8_1, oPc8_2, oPc8_3, oPc8_4, oPc8_5, oPc8_6, oPc8_7, oPc8_8, oPc8_9, oPc8_10, oPc8_11, oPc8_12, oPc8_13, oPc8_14, oPc8_15, oPc8_16, oPc8_17, oPc8_18, oPc8_19, oPc8_20, oPc8_21, oPc8_22, oPc8_23, oPc8_24, oPc8_25]
def sPc8 : List Nat := [7, 8, 9, 10, 11, 12, 13, 14, 15, 16, 17, 18, 19, 20, 21, 22, 23, 24, 25, 26, 27, 28, 29, 30, 31, 6]
def spPc8 (V3 V4 V5 gC oC kC nn aa bb x0 y0 cc dd gD oD kD : Nat) (XX YY sp : Int) (L LD : List PL) : List Spec := [spV (.pointer (some ⟨V3, 1, none⟩)), spV (.slice (some ⟨gC, oC, none⟩) nn kC), spV (.int .i64 (nn : Int)), spV (.bool true), spV (.bool true), spV (.pointer (some ⟨V3, 1, none⟩)), spV (.slice (some ⟨gC, oC, none⟩) nn kC), spV (.pointer (some ⟨gC, oC, none⟩)), spV (.pointer (some ⟨gC, oC, none⟩)), spV (.int .i64 (aa : Int)), spV (.pointer (some ⟨V3, 1, none⟩)), spV (.slice (some ⟨gC, oC, none⟩) nn kC), spV (.pointer (some ⟨gC, oC, none⟩)), spV (.pointer (some ⟨gC, oC + 1, none⟩)), spV (.int .i64 (bb : Int)), spV (.agg #[.int .i64 (x0 : Int), .int .i64 (y0 : Int), .int .i64 XX, .int .i64 YY]), spV (.bool true), spV (.bool true), spV (.bool true), spV (.agg #[.int .i64 sp, .slice (some ⟨gC, oC, none⟩) nn kC]), spV (.agg #[.int .i64 (x0 : Int), .int .i64 (y0 : Int), .int .i64 XX, .int .i64 YY]), CrS sp nn aa x0 y0 cc dd L, spV (.agg #[.int .i64 sp, .slice (some ⟨gD, oD, none⟩) nn kD]), spV (.bool true), spV (.bool true), spV (.bool true)]
structure EnvPc8 (a0 : Act) (w : World) (V3 V4 V5 gC oC kC nn aa bb x0 y0 cc dd gD oD kD : Nat) (XX YY sp : Int) (L LD : List PL) : Prop where
  h3 : a0.tmps[3]? = some (ptrV V3)
  h4 : a0.tmps[4]? = some (ptrV V4)
  h5 : a0.tmps[5]? = some (ptrV V5)
  c30 : w.cell? ⟨V3, 0, none⟩ = some (.int .i64 sp)
  c31 : w.cell? ⟨V3, 1, none⟩ = some (.slice (some ⟨gC, oC, none⟩) nn kC)
  k0 : w.cell? ⟨V4, 0, none⟩ = some (.int .i64 (x0 : Int))
  k1 : w.cell? ⟨V4, 1, none⟩ = some (.int .i64 (y0 : Int))
  k2 : w.cell? ⟨V4, 2, none⟩ = some (.int .i64 XX)
  k3 : w.cell? ⟨V4, 3, none⟩ = some (.int .i64 YY)
  d0 : w.cell? ⟨V5, 0, none⟩ = some (.int .i64 sp)
  d1 : w.cell? ⟨V5, 1, none⟩ = some (.slice (some ⟨gD, oD, none⟩) nn kD)
  e0 : w.cell? ⟨gC, oC, none⟩ = some (.int .i64 (aa : Int))
  e1 : w.cell? ⟨gC, oC + 1, none⟩ = some (.int .i64 (bb : Int))
  pc : Pc w gC oC aa bb L
  ln : L.length = nn
  cp : nn ≤ kC
  pd : Pc w gD oD cc dd LD
  cd : nn ≤ kD
  same : LD.map PL.S = (L.map PL.S).map (cutL aa x0 y0 cc dd)
  rc : Rct aa bb x0 y0 cc dd
  hx : XX = (x0 + cc : Nat)
  hy : YY = (y0 + dd : Nat)
def skPc8 (i : Nat) : Bool := [].contains i
theorem yPc8_0 {a0 : Act} {w : World} {V3 V4 V5 gC oC kC nn aa bb x0 y0 cc dd gD oD kD : Nat} {XX YY sp : Int} {L LD : List PL} (E : EnvPc8 a0 w V3 V4 V5 gC oC kC nn aa bb x0 y0 cc dd gD oD kD XX YY sp L LD) {R : Exit → Act → World → Prop} {a : Act} {x : World} (q : Q w x) (oth : ∀ j, j ∉ sPc8 → a.tmps[j]? = a0.tmps[j]?) (dep : ∀ ed ∈ oPc8_0.after, Region.binds .any ed = true → ∀ t', sPc8[ed.on]? = some t' → ∃ v, a.tmps[t']? = some v ∧ specAt (spPc8 V3 V4 V5 gC oC kC nn aa bb x0 y0 cc dd gD oD kD XX YY sp L LD) ed.on v x) : Yld Try.prog R oPc8_0 a x 7 (specAt (spPc8 V3 V4 V5 gC oC kC nn aa bb x0 y0 cc dd gD oD kD XX YY sp L LD) 0) := by
  have hs := (oth 3 (by decide)).trans E.h3
  exact yld_run (x' := x) rfl (by simp [oPc8_0, execOp, go_sem, hs, ptrV]) (Q.refl x) rfl
theorem yPc8_1 {a0 : Act} {w : World} {V3 V4 V5 gC oC kC nn aa bb x0 y0 cc dd gD oD kD : Nat} {XX YY sp : Int} {L LD : List PL} (E : EnvPc8 a0 w V3 V4 V5 gC oC kC nn aa bb x0 y0 cc dd gD oD kD XX YY sp L LD) {R : Exit → Act → World → Prop} {a : Act} {x : World} (q : Q w x) (oth : ∀ j, j ∉ sPc8 → a.tmps[j]? = a0.tmps[j]?) (dep : ∀ ed ∈ oPc8_1.after, Region.binds .any ed = true → ∀ t', sPc8[ed.on]? = some t' → ∃ v, a.tmps[t']? = some v ∧ specAt (spPc8 V3 V4 V5 gC oC kC nn aa bb x0 y0 cc dd gD oD kD XX YY sp L LD) ed.on v x) : Yld Try.prog R oPc8_1 a x 8 (specAt (spPc8 V3 V4 V5 gC oC kC nn aa bb x0 y0 cc dd gD oD kD XX YY sp L LD) 1) := by
  obtain ⟨v0, t0, f0⟩ := dep ⟨0, .data⟩ (by simp [oPc8_1]) rfl 7 rfl
  have f0 : v0 = (.pointer (some ⟨V3, 1, none⟩)) := f0
  subst f0
  have h0 := tmp_eval t0
  have hc := q.cell E.c31
  exact yld_run (x' := x) rfl (by simp [oPc8_1, execOp, go_sem, t0, hc]) (Q.refl x) rfl
theorem yPc8_2 {a0 : Act} {w : World} {V3 V4 V5 gC oC kC nn aa bb x0 y0 cc dd gD oD kD : Nat} {XX YY sp : Int} {L LD : List PL} (E : EnvPc8 a0 w V3 V4 V5 gC oC kC nn aa bb x0 y0 cc dd gD oD kD XX YY sp L LD) {R : Exit → Act → World → Prop} {a : Act} {x : World} (q : Q w x) (oth : ∀ j, j ∉ sPc8 → a.tmps[j]? = a0.tmps[j]?) (dep : ∀ ed ∈ oPc8_2.after, Region.binds .any ed = true → ∀ t', sPc8[ed.on]? = some t' → ∃ v, a.tmps[t']? = some v ∧ specAt (spPc8 V3 V4 V5 gC oC kC nn aa bb x0 y0 cc dd gD oD kD XX YY sp L LD) ed.on v x) : Yld Try.prog R oPc8_2 a x 9 (specAt (spPc8 V3 V4 V5 gC oC kC nn aa bb x0 y0 cc dd gD oD kD XX YY sp L LD) 2) := by
  obtain ⟨v1, t1, f1⟩ := dep ⟨1, .data⟩ (by simp [oPc8_2]) rfl 8 rfl
  have f1 : v1 = (.slice (some ⟨gC, oC, none⟩) nn kC) := f1
  subst f1
  have h1 := tmp_eval t1
  exact yld_run (x' := x) rfl (by simp [oPc8_2, execOp, go_sem, t1]) (Q.refl x) rfl
theorem yPc8_3 {a0 : Act} {w : World} {V3 V4 V5 gC oC kC nn aa bb x0 y0 cc dd gD oD kD : Nat} {XX YY sp : Int} {L LD : List PL} (E : EnvPc8 a0 w V3 V4 V5 gC oC kC nn aa bb x0 y0 cc dd gD oD kD XX YY sp L LD) {R : Exit → Act → World → Prop} {a : Act} {x : World} (q : Q w x) (oth : ∀ j, j ∉ sPc8 → a.tmps[j]? = a0.tmps[j]?) (dep : ∀ ed ∈ oPc8_3.after, Region.binds .any ed = true → ∀ t', sPc8[ed.on]? = some t' → ∃ v, a.tmps[t']? = some v ∧ specAt (spPc8 V3 V4 V5 gC oC kC nn aa bb x0 y0 cc dd gD oD kD XX YY sp L LD) ed.on v x) : Yld Try.prog R oPc8_3 a x 10 (specAt (spPc8 V3 V4 V5 gC oC kC nn aa bb x0 y0 cc dd gD oD kD XX YY sp L LD) 3) := by
  obtain ⟨v2, t2, f2⟩ := dep ⟨2, .data⟩ (by simp [oPc8_3]) rfl 9 rfl
  have f2 : v2 = (.int .i64 (nn : Int)) := f2
  subst f2
  have h2 := tmp_eval t2
  have hn0 : 0 < nn := by have := E.pc.n1; have := E.ln; omega
  exact yld_run (x' := x) rfl (by simp [oPc8_3, execOp, go_sem, t2, hn0]) (Q.refl x) rfl
theorem yPc8_4 {a0 : Act} {w : World} {V3 V4 V5 gC oC kC nn aa bb x0 y0 cc dd gD oD kD : Nat} {XX YY sp : Int} {L LD : List PL} (E : EnvPc8 a0 w V3 V4 V5 gC oC kC nn aa bb x0 y0 cc dd gD oD kD XX YY sp L LD) {R : Exit → Act → World → Prop} {a : Act} {x : World} (q : Q w x) (oth : ∀ j, j ∉ sPc8 → a.tmps[j]? = a0.tmps[j]?) (dep : ∀ ed ∈ oPc8_4.after, Region.binds .any ed = true → ∀ t', sPc8[ed.on]? = some t' → ∃ v, a.tmps[t']? = some v ∧ specAt (spPc8 V3 V4 V5 gC oC kC nn aa bb x0 y0 cc dd gD oD kD XX YY sp L LD) ed.on v x) : Yld Try.prog R oPc8_4 a x 11 (specAt (spPc8 V3 V4 V5 gC oC kC nn aa bb x0 y0 cc dd gD oD kD XX YY sp L LD) 4) := by
  obtain ⟨v3, t3, f3⟩ := dep ⟨3, .data⟩ (by simp [oPc8_4]) rfl 10 rfl
  have f3 : v3 = (.bool true) := f3
  subst f3
  exact yld_move t3 rfl
theorem yPc8_5 {a0 : Act} {w : World} {V3 V4 V5 gC oC kC nn aa bb x0 y0 cc dd gD oD kD : Nat} {XX YY sp : Int} {L LD : List PL} (E : EnvPc8 a0 w V3 V4 V5 gC oC kC nn aa bb x0 y0 cc dd gD oD kD XX YY sp L LD) {R : Exit → Act → World → Prop} {a : Act} {x : World} (q : Q w x) (oth : ∀ j, j ∉ sPc8 → a.tmps[j]? = a0.tmps[j]?) (dep : ∀ ed ∈ oPc8_5.after, Region.binds .any ed = true → ∀ t', sPc8[ed.on]? = some t' → ∃ v, a.tmps[t']? = some v ∧ specAt (spPc8 V3 V4 V5 gC oC kC nn aa bb x0 y0 cc dd gD oD kD XX YY sp L LD) ed.on v x) : Yld Try.prog R oPc8_5 a x 12 (specAt (spPc8 V3 V4 V5 gC oC kC nn aa bb x0 y0 cc dd gD oD kD XX YY sp L LD) 5) := by
  have hs := (oth 3 (by decide)).trans E.h3
  exact yld_run (x' := x) rfl (by simp [oPc8_5, execOp, go_sem, hs, ptrV]) (Q.refl x) rfl
theorem yPc8_6 {a0 : Act} {w : World} {V3 V4 V5 gC oC kC nn aa bb x0 y0 cc dd gD oD kD : Nat} {XX YY sp : Int} {L LD : List PL} (E : EnvPc8 a0 w V3 V4 V5 gC oC kC nn aa bb x0 y0 cc dd gD oD kD XX YY sp L LD) {R : Exit → Act → World → Prop} {a : Act} {x : World} (q : Q w x) (oth : ∀ j, j ∉ sPc8 → a.tmps[j]? = a0.tmps[j]?) (dep : ∀ ed ∈ oPc8_6.after, Region.binds .any ed = true → ∀ t', sPc8[ed.on]? = some t' → ∃ v, a.tmps[t']? = some v ∧ specAt (spPc8 V3 V4 V5 gC oC kC nn aa bb x0 y0 cc dd gD oD kD XX YY sp L LD) ed.on v x) : Yld Try.prog R oPc8_6 a x 13 (specAt (spPc8 V3 V4 V5 gC oC kC nn aa bb x0 y0 cc dd gD oD kD XX YY sp L LD) 6) := by
  obtain ⟨v5, t5, f5⟩ := dep ⟨5, .data⟩ (by simp [oPc8_6]) rfl 12 rfl
  have f5 : v5 = (.pointer (some ⟨V3, 1, none⟩)) := f5
  subst f5
  have h5 := tmp_eval t5
  have hc := q.cell E.c31
  exact yld_run (x' := x) rfl (by simp [oPc8_6, execOp, go_sem, t5, hc]) (Q.refl x) rfl
theorem yPc8_7 {a0 : Act} {w : World} {V3 V4 V5 gC oC kC nn aa bb x0 y0 cc dd gD oD kD : Nat} {XX YY sp : Int} {L LD : List PL} (E : EnvPc8 a0 w V3 V4 V5 gC oC kC nn aa bb x0 y0 cc dd gD oD kD XX YY sp L LD) {R : Exit → Act → World → Prop} {a : Act} {x : World} (q : Q w x) (oth : ∀ j, j ∉ sPc8 → a.tmps[j]? = a0.tmps[j]?) (dep : ∀ ed ∈ oPc8_7.after, Region.binds .any ed = true → ∀ t', sPc8[ed.on]? = some t' → ∃ v, a.tmps[t']? = some v ∧ specAt (spPc8 V3 V4 V5 gC oC kC nn aa bb x0 y0 cc dd gD oD kD XX YY sp L LD) ed.on v x) : Yld Try.prog R oPc8_7 a x 14 (specAt (spPc8 V3 V4 V5 gC oC kC nn aa bb x0 y0 cc dd gD oD kD XX YY sp L LD) 7) := by
  obtain ⟨v6, t6, f6⟩ := dep ⟨6, .data⟩ (by simp [oPc8_7]) rfl 13 rfl
  have f6 : v6 = (.slice (some ⟨gC, oC, none⟩) nn kC) := f6
  subst f6
  have h6 := tmp_eval t6
  have hn0 : 0 < nn := by have := E.pc.n1; have := E.ln; omega
  exact yld_run (x' := x) rfl (by simp [oPc8_7, execOp, go_sem, t6, hn0]) (Q.refl x) rfl
theorem yPc8_8 {a0 : Act} {w : World} {V3 V4 V5 gC oC kC nn aa bb x0 y0 cc dd gD oD kD : Nat} {XX YY sp : Int} {L LD : List PL} (E : EnvPc8 a0 w V3 V4 V5 gC oC kC nn aa bb x0 y0 cc dd gD oD kD XX YY sp L LD) {R : Exit → Act → World → Prop} {a : Act} {x : World} (q : Q w x) (oth : ∀ j, j ∉ sPc8 → a.tmps[j]? = a0.tmps[j]?) (dep : ∀ ed ∈ oPc8_8.after, Region.binds .any ed = true → ∀ t', sPc8[ed.on]? = some t' → ∃ v, a.tmps[t']? = some v ∧ specAt (spPc8 V3 V4 V5 gC oC kC nn aa bb x0 y0 cc dd gD oD kD XX YY sp L LD) ed.on v x) : Yld Try.prog R oPc8_8 a x 15 (specAt (spPc8 V3 V4 V5 gC oC kC nn aa bb x0 y0 cc dd gD oD kD XX YY sp L LD) 8) := by
  obtain ⟨v7, t7, f7⟩ := dep ⟨7, .data⟩ (by simp [oPc8_8]) rfl 14 rfl
  have f7 : v7 = (.pointer (some ⟨gC, oC, none⟩)) := f7
  subst f7
  have h7 := tmp_eval t7
  exact yld_run (x' := x) rfl (by simp [oPc8_8, execOp, go_sem, t7]) (Q.refl x) rfl
theorem yPc8_9 {a0 : Act} {w : World} {V3 V4 V5 gC oC kC nn aa bb x0 y0 cc dd gD oD kD : Nat} {XX YY sp : Int} {L LD : List PL} (E : EnvPc8 a0 w V3 V4 V5 gC oC kC nn aa bb x0 y0 cc dd gD oD kD XX YY sp L LD) {R : Exit → Act → World → Prop} {a : Act} {x : World} (q : Q w x) (oth : ∀ j, j ∉ sPc8 → a.tmps[j]? = a0.tmps[j]?) (dep : ∀ ed ∈ oPc8_9.after, Region.binds .any ed = true → ∀ t', sPc8[ed.on]? = some t' → ∃ v, a.tmps[t']? = some v ∧ specAt (spPc8 V3 V4 V5 gC oC kC nn aa bb x0 y0 cc dd gD oD kD XX YY sp L LD) ed.on v x) : Yld Try.prog R oPc8_9 a x 16 (specAt (spPc8 V3 V4 V5 gC oC kC nn aa bb x0 y0 cc dd gD oD kD XX YY sp L LD) 9) := by
  obtain ⟨v8, t8, f8⟩ := dep ⟨8, .data⟩ (by simp [oPc8_9]) rfl 15 rfl
  have f8 : v8 = (.pointer (some ⟨gC, oC, none⟩)) := f8
  subst f8
  have h8 := tmp_eval t8
  have hc := q.cell E.e0
  exact yld_run (x' := x) rfl (by simp [oPc8_9, execOp, go_sem, t8, hc]) (Q.refl x) rfl
theorem yPc8_10 {a0 : Act} {w : World} {V3 V4 V5 gC oC kC nn aa bb x0 y0 cc dd gD oD kD : Nat} {XX YY sp : Int} {L LD : List PL} (E : EnvPc8 a0 w V3 V4 V5 gC oC kC nn aa bb x0 y0 cc dd gD oD kD XX YY sp L LD) {R : Exit → Act → World → Prop} {a : Act} {x : World} (q : Q w x) (oth : ∀ j, j ∉ sPc8 → a.tmps[j]? = a0.tmps[j]?) (dep : ∀ ed ∈ oPc8_10.after, Region.binds .any ed = true → ∀ t', sPc8[ed.on]? = some t' → ∃ v, a.tmps[t']? = some v ∧ specAt (spPc8 V3 V4 V5 gC oC kC nn aa bb x0 y0 cc dd gD oD kD XX YY sp L LD) ed.on v x) : Yld Try.prog R oPc8_10 a x 17 (specAt (spPc8 V3 V4 V5 gC oC kC nn aa bb x0 y0 cc dd gD oD kD XX YY sp L LD) 10) := by
  have hs := (oth 3 (by decide)).trans E.h3
  exact yld_run (x' := x) rfl (by simp [oPc8_10, execOp, go_sem, hs, ptrV]) (Q.refl x) rfl
theorem yPc8_11 {a0 : Act} {w : World} {V3 V4 V5 gC oC kC nn aa bb x0 y0 cc dd gD oD kD : Nat} {XX YY sp : Int} {L LD : List PL} (E : EnvPc8 a0 w V3 V4 V5 gC oC kC nn aa bb x0 y0 cc dd gD oD kD XX YY sp L LD) {R : Exit → Act → World → Prop} {a : Act} {x : World} (q : Q w x) (oth : ∀ j, j ∉ sPc8 → a.tmps[j]? = a0.tmps[j]?) (dep : ∀ ed ∈ oPc8_11.after, Region.binds .any ed = true → ∀ t', sPc8[ed.on]? = some t' → ∃ v, a.tmps[t']? = some v ∧ specAt (spPc8 V3 V4 V5 gC oC kC nn aa bb x0 y0 cc dd gD oD kD XX YY sp L LD) ed.on v x) : Yld Try.prog R oPc8_11 a x 18 (specAt (spPc8 V3 V4 V5 gC oC kC nn aa bb x0 y0 cc dd gD oD kD XX YY sp L LD) 11) := by
  obtain ⟨v10, t10, f10⟩ := dep ⟨10, .data⟩ (by simp [oPc8_11]) rfl 17 rfl
  have f10 : v10 = (.pointer (some ⟨V3, 1, none⟩)) := f10
  subst f10
  have h10 := tmp_eval t10
  have hc := q.cell E.c31
  exact yld_run (x' := x) rfl (by simp [oPc8_11, execOp, go_sem, t10, hc]) (Q.refl x) rfl
theorem yPc8_12 {a0 : Act} {w : World} {V3 V4 V5 gC oC kC nn aa bb x0 y0 cc dd gD oD kD : Nat} {XX YY sp : Int} {L LD : List PL} (E : EnvPc8 a0 w V3 V4 V5 gC oC kC nn aa bb x0 y0 cc dd gD oD kD XX YY sp L LD) {R : Exit → Act → World → Prop} {a : Act} {x : World} (q : Q w x) (oth : ∀ j, j ∉ sPc8 → a.tmps[j]? = a0.tmps[j]?) (dep : ∀ ed ∈ oPc8_12.after, Region.binds .any ed = true → ∀ t', sPc8[ed.on]? = some t' → ∃ v, a.tmps[t']? = some v ∧ specAt (spPc8 V3 V4 V5 gC oC kC nn aa bb x0 y0 cc dd gD oD kD XX YY sp L LD) ed.on v x) : Yld Try.prog R oPc8_12 a x 19 (specAt (spPc8 V3 V4 V5 gC oC kC nn aa bb x0 y0 cc dd gD oD kD XX YY sp L LD) 12) := by
  obtain ⟨v11, t11, f11⟩ := dep ⟨11, .data⟩ (by simp [oPc8_12]) rfl 18 rfl
  have f11 : v11 = (.slice (some ⟨gC, oC, none⟩) nn kC) := f11
  subst f11
  have h11 := tmp_eval t11
  have hn0 : 0 < nn := by have := E.pc.n1; have := E.ln; omega
  exact yld_run (x' := x) rfl (by simp [oPc8_12, execOp, go_sem, t11, hn0]) (Q.refl x) rfl
theorem yPc8_13 {a0 : Act} {w : World} {V3 V4 V5 gC oC kC nn aa bb x0 y0 cc dd gD oD kD : Nat} {XX YY sp : Int} {L LD : List PL} (E : EnvPc8 a0 w V3 V4 V5 gC oC kC nn aa bb x0 y0 cc dd gD oD kD XX YY sp L LD) {R : Exit → Act → World → Prop} {a : Act} {x : World} (q : Q w x) (oth : ∀ j, j ∉ sPc8 → a.tmps[j]? = a0.tmps[j]?) (dep : ∀ ed ∈ oPc8_13.after, Region.binds .any ed = true → ∀ t', sPc8[ed.on]? = some t' → ∃ v, a.tmps[t']? = some v ∧ specAt (spPc8 V3 V4 V5 gC oC kC nn aa bb x0 y0 cc dd gD oD kD XX YY sp L LD) ed.on v x) : Yld Try.prog R oPc8_13 a x 20 (specAt (spPc8 V3 V4 V5 gC oC kC nn aa bb x0 y0 cc dd gD oD kD XX YY sp L LD) 13) := by
  obtain ⟨v12, t12, f12⟩ := dep ⟨12, .data⟩ (by simp [oPc8_13]) rfl 19 rfl
  have f12 : v12 = (.pointer (some ⟨gC, oC, none⟩)) := f12
  subst f12
  have h12 := tmp_eval t12
  exact yld_run (x' := x) rfl (by simp [oPc8_13, execOp, go_sem, t12]) (Q.refl x) rfl
theorem yPc8_14 {a0 : Act} {w : World} {V3 V4 V5 gC oC kC nn aa bb x0 y0 cc dd gD oD kD : Nat} {XX YY sp : Int} {L LD : List PL} (E : EnvPc8 a0 w V3 V4 V5 gC oC kC nn aa bb x0 y0 cc dd gD oD kD XX YY sp L LD) {R : Exit → Act → World → Prop} {a : Act} {x : World} (q : Q w x) (oth : ∀ j, j ∉ sPc8 → a.tmps[j]? = a0.tmps[j]?) (dep : ∀ ed ∈ oPc8_14.after, Region.binds .any ed = true → ∀ t', sPc8[ed.on]? = some t' → ∃ v, a.tmps[t']? = some v ∧ specAt (spPc8 V3 V4 V5 gC oC kC nn aa bb x0 y0 cc dd gD oD kD XX YY sp L LD) ed.on v x) : Yld Try.prog R oPc8_14 a x 21 (specAt (spPc8 V3 V4 V5 gC oC kC nn aa bb x0 y0 cc dd gD oD kD XX YY sp L LD) 14) := by
  obtain ⟨v13, t13, f13⟩ := dep ⟨13, .data⟩ (by simp [oPc8_14]) rfl 20 rfl
  have f13 : v13 = (.pointer (some ⟨gC, oC + 1, none⟩)) := f13
  subst f13
  have h13 := tmp_eval t13
  have hc := q.cell E.e1
  exact yld_run (x' := x) rfl (by simp [oPc8_14, execOp, go_sem, t13, hc]) (Q.refl x) rfl
theorem yPc8_15 {a0 : Act} {w : World} {V3 V4 V5 gC oC kC nn aa bb x0 y0 cc dd gD oD kD : Nat} {XX YY sp : Int} {L LD : List PL} (E : EnvPc8 a0 w V3 V4 V5 gC oC kC nn aa bb x0 y0 cc dd gD oD kD XX YY sp L LD) {R : Exit → Act → World → Prop} {a : Act} {x : World} (q : Q w x) (oth : ∀ j, j ∉ sPc8 → a.tmps[j]? = a0.tmps[j]?) (dep : ∀ ed ∈ oPc8_15.after, Region.binds .any ed = true → ∀ t', sPc8[ed.on]? = some t' → ∃ v, a.tmps[t']? = some v ∧ specAt (spPc8 V3 V4 V5 gC oC kC nn aa bb x0 y0 cc dd gD oD kD XX YY sp L LD) ed.on v x) : Yld Try.prog R oPc8_15 a x 22 (specAt (spPc8 V3 V4 V5 gC oC kC nn aa bb x0 y0 cc dd gD oD kD XX YY sp L LD) 15) := by
  have hs := (oth 4 (by decide)).trans E.h4
  have k0 := q.cell E.k0
  have k1 := q.cell E.k1
  have k2 := q.cell E.k2
  have k3 := q.cell E.k3
  exact yld_run (x' := x) rfl (by simp [oPc8_15, execOp, go_sem, hs, ptrV, k0, k1, k2, k3]) (Q.refl x) rfl
theorem yPc8_16 {a0 : Act} {w : World} {V3 V4 V5 gC oC kC nn aa bb x0 y0 cc dd gD oD kD : Nat} {XX YY sp : Int} {L LD : List PL} (E : EnvPc8 a0 w V3 V4 V5 gC oC kC nn aa bb x0 y0 cc dd gD oD kD XX YY sp L LD) {R : Exit → Act → World → Prop} {a : Act} {x : World} (q : Q w x) (oth : ∀ j, j ∉ sPc8 → a.tmps[j]? = a0.tmps[j]?) (dep : ∀ ed ∈ oPc8_16.after, Region.binds .any ed = true → ∀ t', sPc8[ed.on]? = some t' → ∃ v, a.tmps[t']? = some v ∧ specAt (spPc8 V3 V4 V5 gC oC kC nn aa bb x0 y0 cc dd gD oD kD XX YY sp L LD) ed.on v x) : Yld Try.prog R oPc8_16 a x 23 (specAt (spPc8 V3 V4 V5 gC oC kC nn aa bb x0 y0 cc dd gD oD kD XX YY sp L LD) 16) := by
  obtain ⟨v9, t9, f9⟩ := dep ⟨9, .data⟩ (by simp [oPc8_16]) rfl 16 rfl
  have f9 : v9 = (.int .i64 (aa : Int)) := f9
  subst f9
  obtain ⟨v14, t14, f14⟩ := dep ⟨14, .data⟩ (by simp [oPc8_16]) rfl 21 rfl
  have f14 : v14 = (.int .i64 (bb : Int)) := f14
  subst f14
  obtain ⟨v15, t15, f15⟩ := dep ⟨15, .data⟩ (by simp [oPc8_16]) rfl 22 rfl
  have f15 : v15 = (.agg #[.int .i64 (x0 : Int), .int .i64 (y0 : Int), .int .i64 XX, .int .i64 YY]) := f15
  subst f15
  have h9 := tmp_eval t9
  have h14 := tmp_eval t14
  have h15 := tmp_eval t15
  refine yld_call (enters_of Try.func26 (by kernel_rfl) rfl) (vs := #[.int .i64 (aa : Int), .int .i64 (bb : Int), .agg #[.int .i64 (x0 : Int), .int .i64 (y0 : Int), .int .i64 XX, .int .i64 YY]]) (by simp [h9, h14, h15]) ((within_yes _ _ _ _ XX YY (by omega) (by have := E.hx; have := E.rc.c1; omega) (by have := E.hx; have := E.rc.c2; omega) (by omega) (by have := E.hy; have := E.rc.d1; omega) (by have := E.hy; have := E.rc.d2; omega) x).mono ?_)
  rintro u x' ⟨rfl, q'⟩
  exact ⟨_, rfl, q', rfl⟩
theorem yPc8_17 {a0 : Act} {w : World} {V3 V4 V5 gC oC kC nn aa bb x0 y0 cc dd gD oD kD : Nat} {XX YY sp : Int} {L LD : List PL} (E : EnvPc8 a0 w V3 V4 V5 gC oC kC nn aa bb x0 y0 cc dd gD oD kD XX YY sp L LD) {R : Exit → Act → World → Prop} {a : Act} {x : World} (q : Q w x) (oth : ∀ j, j ∉ sPc8 → a.tmps[j]? = a0.tmps[j]?) (dep : ∀ ed ∈ oPc8_17.after, Region.binds .any ed = true → ∀ t', sPc8[ed.on]? = some t' → ∃ v, a.tmps[t']? = some v ∧ specAt (spPc8 V3 V4 V5 gC oC kC nn aa bb x0 y0 cc dd gD oD kD XX YY sp L LD) ed.on v x) : Yld Try.prog R oPc8_17 a x 24 (specAt (spPc8 V3 V4 V5 gC oC kC nn aa bb x0 y0 cc dd gD oD kD XX YY sp L LD) 17) := by
  obtain ⟨v4, t4, f4⟩ := dep ⟨4, .data⟩ (by simp [oPc8_17]) rfl 11 rfl
  have f4 : v4 = (.bool true) := f4
  subst f4
  obtain ⟨v16, t16, f16⟩ := dep ⟨16, .data⟩ (by simp [oPc8_17]) rfl 23 rfl
  have f16 : v16 = (.bool true) := f16
  subst f16
  exact yld_run (x' := x) rfl (run_and (tmp_eval t4) (tmp_eval t16)) (Q.refl x) rfl
theorem yPc8_18 {a0 : Act} {w : World} {V3 V4 V5 gC oC kC nn aa bb x0 y0 cc dd gD oD kD : Nat} {XX YY sp : Int} {L LD : List PL} (E : EnvPc8 a0 w V3 V4 V5 gC oC kC nn aa bb x0 y0 cc dd gD oD kD XX YY sp L LD) {R : Exit → Act → World → Prop} {a : Act} {x : World} (q : Q w x) (oth : ∀ j, j ∉ sPc8 → a.tmps[j]? = a0.tmps[j]?) (dep : ∀ ed ∈ oPc8_18.after, Region.binds .any ed = true → ∀ t', sPc8[ed.on]? = some t' → ∃ v, a.tmps[t']? = some v ∧ specAt (spPc8 V3 V4 V5 gC oC kC nn aa bb x0 y0 cc dd gD oD kD XX YY sp L LD) ed.on v x) : Yld Try.prog R oPc8_18 a x 25 (specAt (spPc8 V3 V4 V5 gC oC kC nn aa bb x0 y0 cc dd gD oD kD XX YY sp L LD) 18) := by
  obtain ⟨v17, t17, f17⟩ := dep ⟨17, .data⟩ (by simp [oPc8_18]) rfl 24 rfl
  have f17 : v17 = (.bool true) := f17
  subst f17
  exact yld_move t17 rfl
theorem yPc8_19 {a0 : Act} {w : World} {V3 V4 V5 gC oC kC nn aa bb x0 y0 cc dd gD oD kD : Nat} {XX YY sp : Int} {L LD : List PL} (E : EnvPc8 a0 w V3 V4 V5 gC oC kC nn aa bb x0 y0 cc dd gD oD kD XX YY sp L LD) {R : Exit → Act → World → Prop} {a : Act} {x : World} (q : Q w x) (oth : ∀ j, j ∉ sPc8 → a.tmps[j]? = a0.tmps[j]?) (dep : ∀ ed ∈ oPc8_19.after, Region.binds .any ed = true → ∀ t', sPc8[ed.on]? = some t' → ∃ v, a.tmps[t']? = some v ∧ specAt (spPc8 V3 V4 V5 gC oC kC nn aa bb x0 y0 cc dd gD oD kD XX YY sp L LD) ed.on v x) : Yld Try.prog R oPc8_19 a x 26 (specAt (spPc8 V3 V4 V5 gC oC kC nn aa bb x0 y0 cc dd gD oD kD XX YY sp L LD) 19) := by
  have hs := (oth 3 (by decide)).trans E.h3
  have hc := q.cell E.c30
  have hd := q.cell E.c31
  exact yld_run (x' := x) rfl (by simp [oPc8_19, execOp, go_sem, hs, ptrV, hc, hd]) (Q.refl x) rfl
theorem yPc8_20 {a0 : Act} {w : World} {V3 V4 V5 gC oC kC nn aa bb x0 y0 cc dd gD oD kD : Nat} {XX YY sp : Int} {L LD : List PL} (E : EnvPc8 a0 w V3 V4 V5 gC oC kC nn aa bb x0 y0 cc dd gD oD kD XX YY sp L LD) {R : Exit → Act → World → Prop} {a : Act} {x : World} (q : Q w x) (oth : ∀ j, j ∉ sPc8 → a.tmps[j]? = a0.tmps[j]?) (dep : ∀ ed ∈ oPc8_20.after, Region.binds .any ed = true → ∀ t', sPc8[ed.on]? = some t' → ∃ v, a.tmps[t']? = some v ∧ specAt (spPc8 V3 V4 V5 gC oC kC nn aa bb x0 y0 cc dd gD oD kD XX YY sp L LD) ed.on v x) : Yld Try.prog R oPc8_20 a x 27 (specAt (spPc8 V3 V4 V5 gC oC kC nn aa bb x0 y0 cc dd gD oD kD XX YY sp L LD) 20) := by
  have hs := (oth 4 (by decide)).trans E.h4
  have k0 := q.cell E.k0
  have k1 := q.cell E.k1
  have k2 := q.cell E.k2
  have k3 := q.cell E.k3
  exact yld_run (x' := x) rfl (by simp [oPc8_20, execOp, go_sem, hs, ptrV, k0, k1, k2, k3]) (Q.refl x) rfl
theorem yPc8_21 {a0 : Act} {w : World} {V3 V4 V5 gC oC kC nn aa bb x0 y0 cc dd gD oD kD : Nat} {XX YY sp : Int} {L LD : List PL} (E : EnvPc8 a0 w V3 V4 V5 gC oC kC nn aa bb x0 y0 cc dd gD oD kD XX YY sp L LD) {R : Exit → Act → World → Prop} {a : Act} {x : World} (q : Q w x) (oth : ∀ j, j ∉ sPc8 → a.tmps[j]? = a0.tmps[j]?) (dep : ∀ ed ∈ oPc8_21.after, Region.binds .any ed = true → ∀ t', sPc8[ed.on]? = some t' → ∃ v, a.tmps[t']? = some v ∧ specAt (spPc8 V3 V4 V5 gC oC kC nn aa bb x0 y0 cc dd gD oD kD XX YY sp L LD) ed.on v x) : Yld Try.prog R oPc8_21 a x 28 (specAt (spPc8 V3 V4 V5 gC oC kC nn aa bb x0 y0 cc dd gD oD kD XX YY sp L LD) 21) := by
  obtain ⟨v19, t19, f19⟩ := dep ⟨19, .data⟩ (by simp [oPc8_21]) rfl 26 rfl
  have f19 : v19 = (.agg #[.int .i64 sp, .slice (some ⟨gC, oC, none⟩) nn kC]) := f19
  subst f19
  obtain ⟨v20, t20, f20⟩ := dep ⟨20, .data⟩ (by simp [oPc8_21]) rfl 27 rfl
  have f20 : v20 = (.agg #[.int .i64 (x0 : Int), .int .i64 (y0 : Int), .int .i64 XX, .int .i64 YY]) := f20
  subst f20
  refine yld_call (enters_of Try.func27 (by kernel_rfl) rfl) (args2 t19 t20) ((cropp_good XX YY E.hx E.hy x sp gC oC kC aa bb nn L E.rc (E.pc.next q) E.ln E.cp).mono ?_)
  rintro u x' ⟨g', cap', M, rfl, hM, HW, hq'⟩
  exact ⟨_, rfl, hq', g', cap', M, rfl, by have h1 := HW.out.room; have h2 := congrArg List.length hM; rw [List.length_map, List.length_map, List.length_map, E.ln] at h2; omega, HW.out.pc, hM⟩
theorem yPc8_22 {a0 : Act} {w : World} {V3 V4 V5 gC oC kC nn aa bb x0 y0 cc dd gD oD kD : Nat} {XX YY sp : Int} {L LD : List PL} (E : EnvPc8 a0 w V3 V4 V5 gC oC kC nn aa bb x0 y0 cc dd gD oD kD XX YY sp L LD) {R : Exit → Act → World → Prop} {a : Act} {x : World} (q : Q w x) (oth : ∀ j, j ∉ sPc8 → a.tmps[j]? = a0.tmps[j]?) (dep : ∀ ed ∈ oPc8_22.after, Region.binds .any ed = true → ∀ t', sPc8[ed.on]? = some t' → ∃ v, a.tmps[t']? = some v ∧ specAt (spPc8 V3 V4 V5 gC oC kC nn aa bb x0 y0 cc dd gD oD kD XX YY sp L LD) ed.on v x) : Yld Try.prog R oPc8_22 a x 29 (specAt (spPc8 V3 V4 V5 gC oC kC nn aa bb x0 y0 cc dd gD oD kD XX YY sp L LD) 22) := by
  have hs := (oth 5 (by decide)).trans E.h5
  have hc := q.cell E.d0
  have hd := q.cell E.d1
  exact yld_run (x' := x) rfl (by simp [oPc8_22, execOp, go_sem, hs, ptrV, hc, hd]) (Q.refl x) rfl
theorem yPc8_23 {a0 : Act} {w : World} {V3 V4 V5 gC oC kC nn aa bb x0 y0 cc dd gD oD kD : Nat} {XX YY sp : Int} {L LD : List PL} (E : EnvPc8 a0 w V3 V4 V5 gC oC kC nn aa bb x0 y0 cc dd gD oD kD XX YY sp L LD) {R : Exit → Act → World → Prop} {a : Act} {x : World} (q : Q w x) (oth : ∀ j, j ∉ sPc8 → a.tmps[j]? = a0.tmps[j]?) (dep : ∀ ed ∈ oPc8_23.after, Region.binds .any ed = true → ∀ t', sPc8[ed.on]? = some t' → ∃ v, a.tmps[t']? = some v ∧ specAt (spPc8 V3 V4 V5 gC oC kC nn aa bb x0 y0 cc dd gD oD kD XX YY sp L LD) ed.on v x) : Yld Try.prog R oPc8_23 a x 30 (specAt (spPc8 V3 V4 V5 gC oC kC nn aa bb x0 y0 cc dd gD oD kD XX YY sp L LD) 23) := by
  obtain ⟨v21, t21, f21⟩ := dep ⟨21, .data⟩ (by simp [oPc8_23]) rfl 28 rfl
  have f21 : (CrS sp nn aa x0 y0 cc dd L).p v21 x := f21
  obtain ⟨v22, t22, f22⟩ := dep ⟨22, .data⟩ (by simp [oPc8_23]) rfl 29 rfl
  have f22 : v22 = (.agg #[.int .i64 sp, .slice (some ⟨gD, oD, none⟩) nn kD]) := f22
  subst f22
  obtain ⟨g1, cap1, M1, rfl, c1, p1, s1⟩ := f21
  have hn : M1.length = nn := by have := congrArg List.length s1; rw [List.length_map, List.length_map, List.length_map, E.ln] at this; exact this
  refine yld_call (enters_of Try.func16 (by kernel_rfl) rfl) (args2 t21 t22) ((pics_same p1 (E.pd.next q) hn (by rw [s1, E.same]) c1 E.cd).mono ?_)
  rintro u x' ⟨rfl, q'⟩
  exact ⟨_, rfl, q', rfl⟩
theorem yPc8_24 {a0 : Act} {w : World} {V3 V4 V5 gC oC kC nn aa bb x0 y0 cc dd gD oD kD : Nat} {XX YY sp : Int} {L LD : List PL} (E : EnvPc8 a0 w V3 V4 V5 gC oC kC nn aa bb x0 y0 cc dd gD oD kD XX YY sp L LD) {R : Exit → Act → World → Prop} {a : Act} {x : World} (q : Q w x) (oth : ∀ j, j ∉ sPc8 → a.tmps[j]? = a0.tmps[j]?) (dep : ∀ ed ∈ oPc8_24.after, Region.binds .any ed = true → ∀ t', sPc8[ed.on]? = some t' → ∃ v, a.tmps[t']? = some v ∧ specAt (spPc8 V3 V4 V5 gC oC kC nn aa bb x0 y0 cc dd gD oD kD XX YY sp L LD) ed.on v x) : Yld Try.prog R oPc8_24 a x 31 (specAt (spPc8 V3 V4 V5 gC oC kC nn aa bb x0 y0 cc dd gD oD kD XX YY sp L LD) 24) := by
  obtain ⟨v18, t18, f18⟩ := dep ⟨18, .data⟩ (by simp [oPc8_24]) rfl 25 rfl
  have f18 : v18 = (.bool true) := f18
  subst f18
  obtain ⟨v23, t23, f23⟩ := dep ⟨23, .data⟩ (by simp [oPc8_24]) rfl 30 rfl
  have f23 : v23 = (.bool true) := f23
  subst f23
  exact yld_run (x' := x) rfl (run_and (tmp_eval t18) (tmp_eval t23)) (Q.refl x) rfl
theorem yPc8_25 {a0 : Act} {w : World} {V3 V4 V5 gC oC kC nn aa bb x0 y0 cc dd gD oD kD : Nat} {XX YY sp : Int} {L LD : List PL} (E : EnvPc8 a0 w V3 V4 V5 gC oC kC nn aa bb x0 y0 cc dd gD oD kD XX YY sp L LD) {R : Exit → Act → World → Prop} {a : Act} {x : World} (q : Q w x) (oth : ∀ j, j ∉ sPc8 → a.tmps[j]? = a0.tmps[j]?) (dep : ∀ ed ∈ oPc8_25.after, Region.binds .any ed = true → ∀ t', sPc8[ed.on]? = some t' → ∃ v, a.tmps[t']? = some v ∧ specAt (spPc8 V3 V4 V5 gC oC kC nn aa bb x0 y0 cc dd gD oD kD XX YY sp L LD) ed.on v x) : Yld Try.prog R oPc8_25 a x 6 (specAt (spPc8 V3 V4 V5 gC oC kC nn aa bb x0 y0 cc dd gD oD kD XX YY sp L LD) 25) := by
  obtain ⟨v24, t24, f24⟩ := dep ⟨24, .data⟩ (by simp [oPc8_25]) rfl 31 rfl
  have f24 : v24 = (.bool true) := f24
  subst f24
  exact yld_run (x' := x) rfl (run_asg (tmp_eval t24)) (Q.refl x) rfl
theorem hopPc8 {a0 : Act} {w : World} {V3 V4 V5 gC oC kC nn aa bb x0 y0 cc dd gD oD kD : Nat} {XX YY sp : Int} {L LD : List PL} (E : EnvPc8 a0 w V3 V4 V5 gC oC kC nn aa bb x0 y0 cc dd gD oD kD XX YY sp L LD) {R : Exit → Act → World → Prop} : ∀ (i t : Nat) (o : Oper) (a : Act) (x : World), skPc8 i = false → sPc8[i]? = some t → opsPc8[i]? = some o → Q w x → (∀ j, j ∉ sPc8 → a.tmps[j]? = a0.tmps[j]?) → (∀ ed ∈ o.after, Region.binds .any ed = true → ∀ t', sPc8[ed.on]? = some t' → ∃ v, a.tmps[t']? = some v ∧ specAt (spPc8 V3 V4 V5 gC oC kC nn aa bb x0 y0 cc dd gD oD kD XX YY sp L LD) ed.on v x) → Yld Try.prog R o a x t (specAt (spPc8 V3 V4 V5 gC oC kC nn aa bb x0 y0 cc dd gD oD kD XX YY sp L LD) i)
  | 0, t, o, a, x, hi, ht, ho, q, oth, dep => by
    have e1 : oPc8_0 = o := Option.some.inj ho
    have e2 : 7 = t := Option.some.inj ht
    subst e1 e2
    exact yPc8_0 E q oth dep
  | 1, t, o, a, x, hi, ht, ho, q, oth, dep => by
    have e1 : oPc8_1 = o := Option.some.inj ho
    have e2 : 8 = t := Option.some.inj ht
    subst e1 e2
    exact yPc8_1 E q oth dep
  | 2, t, o, a, x, hi, ht, ho, q, oth, dep => by
    have e1 : oPc8_2 = o := Option.some.inj ho
    have e2 : 9 = t := Option.some.inj ht
    subst e1 e2
    exact yPc8_2 E q oth dep
  | 3, t, o, a, x, hi, ht, ho, q, oth, dep => by
    have e1 : oPc8_3 = o := Option.some.inj ho
    have e2 : 10 = t := Option.some.inj ht
    subst e1 e2
    exact yPc8_3 E q oth dep
  | 4, t, o, a, x, hi, ht, ho, q, oth, dep => by
    have e1 : oPc8_4 = o := Option.some.inj ho
    have e2 : 11 = t := Option.some.inj ht
    subst e1 e2
    exact yPc8_4 E q oth dep
  | 5, t, o, a, x, hi, ht, ho, q, oth, dep => by
    have e1 : oPc8_5 = o := Option.some.inj ho
    have e2 : 12 = t := Option.some.inj ht
    subst e1 e2
    exact yPc8_5 E q oth dep
  | 6, t, o, a, x, hi, ht, ho, q, oth, dep => by
    have e1 : oPc8_6 = o := Option.some.inj ho
    have e2 : 13 = t := Option.some.inj ht
    subst e1 e2
    exact yPc8_6 E q oth dep
  | 7, t, o, a, x, hi, ht, ho, q, oth, dep => by
    have e1 : oPc8_7 = o := Option.some.inj ho
    have e2 : 14 = t := Option.some.inj ht
    subst e1 e2
    exact yPc8_7 E q oth dep
  | 8, t, o, a, x, hi, ht, ho, q, oth, dep => by
    have e1 : oPc8_8 = o := Option.some.inj ho
    have e2 : 15 = t := Option.some.inj ht
    subst e1 e2
    exact yPc8_8 E q oth dep
  | 9, t, o, a, x, hi, ht, ho, q, oth, dep => by
    have e1 : oPc8_9 = o := Option.some.inj ho
    have e2 : 16 = t := Option.some.inj ht
    subst e1 e2
    exact yPc8_9 E q oth dep
  | 10, t, o, a, x, hi, ht, ho, q, oth, dep => by
    have e1 : oPc8_10 = o := Option.some.inj ho
    have e2 : 17 = t := Option.some.inj ht
    subst e1 e2
    exact yPc8_10 E q oth dep
  | 11, t, o, a, x, hi, ht, ho, q, oth, dep => by
    have e1 : oPc8_11 = o := Option.some.inj ho
    have e2 : 18 = t := Option.some.inj ht
    subst e1 e2
    exact yPc8_11 E q oth dep
  | 12, t, o, a, x, hi, ht, ho, q, oth, dep => by
    have e1 : oPc8_12 = o := Option.some.inj ho
    have e2 : 19 = t := Option.some.inj ht
    subst e1 e2
    exact yPc8_12 E q oth dep
  | 13, t, o, a, x, hi, ht, ho, q, oth, dep => by
    have e1 : oPc8_13 = o := Option.some.inj ho
    have e2 : 20 = t := Option.some.inj ht
    subst e1 e2
    exact yPc8_13 E q oth dep
  | 14, t, o, a, x, hi, ht, ho, q, oth, dep => by
    have e1 : oPc8_14 = o := Option.some.inj ho
    have e2 : 21 = t := Option.some.inj ht
    subst e1 e2
    exact yPc8_14 E q oth dep
  | 15, t, o, a, x, hi, ht, ho, q, oth, dep => by
    have e1 : oPc8_15 = o := Option.some.inj ho
    have e2 : 22 = t := Option.some.inj ht
    subst e1 e2
    exact yPc8_15 E q oth dep
  | 16, t, o, a, x, hi, ht, ho, q, oth, dep => by
    have e1 : oPc8_16 = o := Option.some.inj ho
    have e2 : 23 = t := Option.some.inj ht
    subst e1 e2
    exact yPc8_16 E q oth dep
  | 17, t, o, a, x, hi, ht, ho, q, oth, dep => by
    have e1 : oPc8_17 = o := Option.some.inj ho
    have e2 : 24 = t := Option.some.inj ht
    subst e1 e2
    exact yPc8_17 E q oth dep
  | 18, t, o, a, x, hi, ht, ho, q, oth, dep => by
    have e1 : oPc8_18 = o := Option.some.inj ho
    have e2 : 25 = t := Option.some.inj ht
    subst e1 e2
    exact yPc8_18 E q oth dep
  | 19, t, o, a, x, hi, ht, ho, q, oth, dep => by
    have e1 : oPc8_19 = o := Option.some.inj ho
    have e2 : 26 = t := Option.some.inj ht
    subst e1 e2
    exact yPc8_19 E q oth dep
  | 20, t, o, a, x, hi, ht, ho, q, oth, dep => by
    have e1 : oPc8_20 = o := Option.some.inj ho
    have e2 : 27 = t := Option.some.inj ht
    subst e1 e2
    exact yPc8_20 E q oth dep
  | 21, t, o, a, x, hi, ht, ho, q, oth, dep => by
    have e1 : oPc8_21 = o := Option.some.inj ho
    have e2 : 28 = t := Option.some.inj ht
    subst e1 e2
    exact yPc8_21 E q oth dep
  | 22, t, o, a, x, hi, ht, ho, q, oth, dep => by
    have e1 : oPc8_22 = o := Option.some.inj ho
    have e2 : 29 = t := Option.some.inj ht
    subst e1 e2
    exact yPc8_22 E q oth dep
  | 23, t, o, a, x, hi, ht, ho, q, oth, dep => by
    have e1 : oPc8_23 = o := Option.some.inj ho
    have e2 : 30 = t := Option.some.inj ht
    subst e1 e2
    exact yPc8_23 E q oth dep
  | 24, t, o, a, x, hi, ht, ho, q, oth, dep => by
    have e1 : oPc8_24 = o := Option.some.inj ho
    have e2 : 31 = t := Option.some.inj ht
    subst e1 e2
    exact yPc8_24 E q oth dep
  | 25, t, o, a, x, hi, ht, ho, q, oth, dep => by
    have e1 : oPc8_25 = o := Option.some.inj ho
    have e2 : 6 = t := Option.some.inj ht
    subst e1 e2
    exact yPc8_25 E q oth dep
  | i + 26, t, o, a, x, hi, ht, ho, q, oth, dep => by cases ho
theorem keyPc8 : ∀ i, i < 26 → ((opsPc8[i]?).bind (fun o : Oper => o.guard) = none ∧ skPc8 i = false) ∨ ((opsPc8[i]?).bind (fun o : Oper => o.guard) = some (4, true) ∧ skPc8 i = false) ∨ ((opsPc8[i]?).bind (fun o : Oper => o.guard) = some (18, true) ∧ skPc8 i = false) := by decide +kernel
theorem hguPc8 {V3 V4 V5 gC oC kC nn aa bb x0 y0 cc dd gD oD kD : Nat} {XX YY sp : Int} {L LD : List PL} : ∀ (i : Nat) (o : Oper) (g : Nat) (b : Bool), opsPc8[i]? = some o → o.guard = some (g, b) → ∀ v x, specAt (spPc8 V3 V4 V5 gC oC kC nn aa bb x0 y0 cc dd gD oD kD XX YY sp L LD) g v x → (v = .bool b ↔ skPc8 i = false) := by
  intro i o g b ho hg v x hf
  have h := keyPc8 i (List.getElem?_eq_some_iff.1 ho).1
  rw [ho] at h
  simp only [Option.bind_some] at h
  rw [hg] at h
  rcases h with ⟨h, _⟩ | ⟨h, hs⟩ | ⟨h, hs⟩
  · cases h
  · injection h with h
    injection h with h1 h2
    subst h1 h2
    have hv : v = .bool true := hf
    subst hv
    rw [hs]
    simp
  · injection h with h
    injection h with h1 h2
    subst h1 h2
    have hv : v = .bool true := hf
    subst hv
    rw [hs]
    simp
theorem hgnPc8 : ∀ (i : Nat) (o : Oper), opsPc8[i]? = some o → o.guard = none → skPc8 i = false := by
  intro i o ho hg
  have h := keyPc8 i (List.getElem?_eq_some_iff.1 ho).1
  rw [ho] at h
  simp only [Option.bind_some] at h
  rw [hg] at h
  rcases h with ⟨_, h⟩ | ⟨h, _⟩ | ⟨h, _⟩
  · exact h
  · cases h
  · cases h
theorem hskPc8 {V3 V4 V5 gC oC kC nn aa bb x0 y0 cc dd gD oD kD : Nat} {XX YY sp : Int} {L LD : List PL} : ∀ (i : Nat) (x : World), skPc8 i = true → specAt (spPc8 V3 V4 V5 gC oC kC nn aa bb x0 y0 cc dd gD oD kD XX YY sp L LD) i undef x := by
  intro i x h
  cases h
theorem regionPc8 {id : Nat} {l : List Oper} {R : Exit → Act → World → Prop} {a0 : Act} {w : World} {V3 V4 V5 gC oC kC nn aa bb x0 y0 cc dd gD oD kD : Nat} {XX YY sp : Int} {L LD : List PL} (hl : l = opsPc8) (hsz : a0.tmps.size = 32) (E : EnvPc8 a0 w V3 V4 V5 gC oC kC nn aa bb x0 y0 cc dd gD oD kD XX YY sp L LD)
    (hR : ∀ x v21, Q w x → R .normal (putAll a0 [(7, (.pointer (some ⟨V3, 1, none⟩))), (8, (.slice (some ⟨gC, oC, none⟩) nn kC)), (9, (.int .i64 (nn : Int))), (10, (.bool true)), (11, (.bool true)), (12, (.pointer (some ⟨V3, 1, none⟩))), (13, (.slice (some ⟨gC, oC, none⟩) nn kC)), (14, (.pointer (some ⟨gC, oC, none⟩))), (15, (.pointer (some ⟨gC, oC, none⟩))), (16, (.int .i64 (aa : Int))), (17, (.pointer (some ⟨V3, 1, none⟩))), (18, (.slice (some ⟨gC, oC, none⟩) nn kC)), (19, (.pointer (some ⟨gC, oC, none⟩))), (20, (.pointer (some ⟨gC, oC + 1, none⟩))), (21, (.int .i64 (bb : Int))), (22, (.agg #[.int .i64 (x0 : Int), .int .i64 (y0 : Int), .int .i64 XX, .int .i64 YY])), (23, (.bool true)), (24, (.bool true)), (25, (.bool true)), (26, (.agg #[.int .i64 sp, .slice (some ⟨gC, oC, none⟩) nn kC])), (27, (.agg #[.int .i64 (x0 : Int), .int .i64 (y0 : Int), .int .i64 XX, .int .i64 YY])), (28, v21), (29, (.agg #[.int .i64 sp, .slice (some ⟨gD, oD, none⟩) nn kD])), (30, (.bool true)), (31, (.bool true)), (6, (.bool true))]) x) :
    (Code.region id l.toArray true).wp Try.prog R a0 w := by
  subst hl
  refine wp_region_factsS sPc8 (specAt (spPc8 V3 V4 V5 gC oC kC nn aa bb x0 y0 cc dd gD oD kD XX YY sp L LD)) skPc8 (by kernel_rfl) (by decide +kernel) (by decide) (fun t ht => ?_) specAt.next hguPc8 hgnPc8 hskPc8 (hopPc8 E) (fun a x q size defers other facts => ?_)
  · rw [hsz]
    revert t
    decide
  · obtain ⟨v0, t0, f0⟩ := facts 0 7 rfl
    have f0 : v0 = (.pointer (some ⟨V3, 1, none⟩)) := f0
    subst f0
    obtain ⟨v1, t1, f1⟩ := facts 1 8 rfl
    have f1 : v1 = (.slice (some ⟨gC, oC, none⟩) nn kC) := f1
    subst f1
    obtain ⟨v2, t2, f2⟩ := facts 2 9 rfl
    have f2 : v2 = (.int .i64 (nn : Int)) := f2
    subst f2
    obtain ⟨v3, t3, f3⟩ := facts 3 10 rfl
    have f3 : v3 = (.bool true) := f3
    subst f3
    obtain ⟨v4, t4, f4⟩ := facts 4 11 rfl
    have f4 : v4 = (.bool true) := f4
    subst f4
    obtain ⟨v5, t5, f5⟩ := facts 5 12 rfl
    have f5 : v5 = (.pointer (some ⟨V3, 1, none⟩)) := f5
    subst f5
    obtain ⟨v6, t6, f6⟩ := facts 6 13 rfl
    have f6 : v6 = (.slice (some ⟨gC, oC, none⟩) nn kC) := f6
    subst f6
    obtain ⟨v7, t7, f7⟩ := facts 7 14 rfl
    have f7 : v7 = (.pointer (some ⟨gC, oC, none⟩)) := f7
    subst f7
    obtain ⟨v8, t8, f8⟩ := facts 8 15 rfl
    have f8 : v8 = (.pointer (some ⟨gC, oC, none⟩)) := f8
    subst f8
    obtain ⟨v9, t9, f9⟩ := facts 9 16 rfl
    have f9 : v9 = (.int .i64 (aa : Int)) := f9
    subst f9
    obtain ⟨v10, t10, f10⟩ := facts 10 17 rfl
    have f10 : v10 = (.pointer (some ⟨V3, 1, none⟩)) := f10
    subst f10
    obtain ⟨v11, t11, f11⟩ := facts 11 18 rfl
    have f11 : v11 = (.slice (some ⟨gC, oC, none⟩) nn kC) := f11
    subst f11
    obtain ⟨v12, t12, f12⟩ := facts 12 19 rfl
    have f12 : v12 = (.pointer (some ⟨gC, oC, none⟩)) := f12
    subst f12
    obtain ⟨v13, t13, f13⟩ := facts 13 20 rfl
    have f13 : v13 = (.pointer (some ⟨gC, oC + 1, none⟩)) := f13
    subst f13
    obtain ⟨v14, t14, f14⟩ := facts 14 21 rfl
    have f14 : v14 = (.int .i64 (bb : Int)) := f14
    subst f14
    obtain ⟨v15, t15, f15⟩ := facts 15 22 rfl
    have f15 : v15 = (.agg #[.int .i64 (x0 : Int), .int .i64 (y0 : Int), .int .i64 XX, .int .i64 YY]) := f15
    subst f15
    obtain ⟨v16, t16, f16⟩ := facts 16 23 rfl
    have f16 : v16 = (.bool true) := f16
    subst f16
    obtain ⟨v17, t17, f17⟩ := facts 17 24 rfl
    have f17 : v17 = (.bool true) := f17
    subst f17
    obtain ⟨v18, t18, f18⟩ := facts 18 25 rfl
    have f18 : v18 = (.bool true) := f18
    subst f18
    obtain ⟨v19, t19, f19⟩ := facts 19 26 rfl
    have f19 : v19 = (.agg #[.int .i64 sp, .slice (some ⟨gC, oC, none⟩) nn kC]) := f19
    subst f19
    obtain ⟨v20, t20, f20⟩ := facts 20 27 rfl
    have f20 : v20 = (.agg #[.int .i64 (x0 : Int), .int .i64 (y0 : Int), .int .i64 XX, .int .i64 YY]) := f20
    subst f20
    obtain ⟨v21, t21, f21⟩ := facts 21 28 rfl
    obtain ⟨v22, t22, f22⟩ := facts 22 29 rfl
    have f22 : v22 = (.agg #[.int .i64 sp, .slice (some ⟨gD, oD, none⟩) nn kD]) := f22
    subst f22
    obtain ⟨v23, t23, f23⟩ := facts 23 30 rfl
    have f23 : v23 = (.bool true) := f23
    subst f23
    obtain ⟨v24, t24, f24⟩ := facts 24 31 rfl
    have f24 : v24 = (.bool true) := f24
    subst f24
    obtain ⟨v25, t25, f25⟩ := facts 25 6 rfl
    have f25 : v25 = (.bool true) := f25
    subst f25
    have hA := act_puts (a := a) (a0 := a0) [(7, (.pointer (some ⟨V3, 1, none⟩))), (8, (.slice (some ⟨gC, oC, none⟩) nn kC)), (9, (.int .i64 (nn : Int))), (10, (.bool true)), (11, (.bool true)), (12, (.pointer (some ⟨V3, 1, none⟩))), (13, (.slice (some ⟨gC, oC, none⟩) nn kC)), (14, (.pointer (some ⟨gC, oC, none⟩))), (15, (.pointer (some ⟨gC, oC, none⟩))), (16, (.int .i64 (aa : Int))), (17, (.pointer (some ⟨V3, 1, none⟩))), (18, (.slice (some ⟨gC, oC, none⟩) nn kC)), (19, (.pointer (some ⟨gC, oC, none⟩))), (20, (.pointer (some ⟨gC, oC + 1, none⟩))), (21, (.int .i64 (bb : Int))), (22, (.agg #[.int .i64 (x0 : Int), .int .i64 (y0 : Int), .int .i64 XX, .int .i64 YY])), (23, (.bool true)), (24, (.bool true)), (25, (.bool true)), (26, (.agg #[.int .i64 sp, .slice (some ⟨gC, oC, none⟩) nn kC])), (27, (.agg #[.int .i64 (x0 : Int), .int .i64 (y0 : Int), .int .i64 XX, .int .i64 YY])), (28, v21), (29, (.agg #[.int .i64 sp, .slice (some ⟨gD, oD, none⟩) nn kD])), (30, (.bool true)), (31, (.bool true)), (6, (.bool true))] (by show [7, 8, 9, 10, 11, 12, 13, 14, 15, 16, 17, 18, 19, 20, 21, 22, 23, 24, 25, 26, 27, 28, 29, 30, 31, 6].Nodup; decide) size defers (fun j hj => other j (fun hk => hj hk)) (fun r hr => by
      simp only [List.mem_cons, List.not_mem_nil, or_false] at hr
      rcases hr with rfl | rfl | rfl | rfl | rfl | rfl | rfl | rfl | rfl | rfl | rfl | rfl | rfl | rfl | rfl | rfl | rfl | rfl | rfl | rfl | rfl | rfl | rfl | rfl | rfl | rfl
      · exact t0
      · exact t1
      · exact t2
      · exact t3
      · exact t4
      · exact t5
      · exact t6
      · exact t7
      · exact t8
      · exact t9
      · exact t10
      · exact t11
      · exact t12
      · exact t13
      · exact t14
      · exact t15
      · exact t16
      · exact t17
      · exact t18
      · exact t19
      · exact t20
      · exact t21
      · exact t22
      · exact t23
      · exact t24
      · exact t25)
    rw [hA]
    exact ⟨hR x v21 q⟩
end Go.Proofs.Ytdempklpmggdoaa
/- A piece of a picture is told as one; a piece that isn't. -/
namespace Go.Proofs.Ytdempklpmggdoaa
open Go.RowKit
set_option linter.unusedVariables false
set_option linter.unusedSimpArgs false

set_option maxHeartbeats 4000000 in
set_option maxRecDepth 100000 in
theorem pieces_yes {x0 y0 cc dd : Nat} (XX YY : Int) (hXX : XX = (x0 + cc : Nat)) (hYY : YY = (y0 + dd : Nat)) (w : World) (sp : Int) {gC oC kC nn aa bb gD oD kD : Nat} {L LD : List PL} (hr : Rct aa bb x0 y0 cc dd) (hp : Pc w gC oC aa bb L) (hn : L.length = nn) (hk : nn ≤ kC) (hd : Pc w gD oD cc dd LD) (hkd : nn ≤ kD) (hs : LD.map PL.S = (L.map PL.S).map (cutL aa x0 y0 cc dd)) :
    Calls Try.prog 9 #[.agg #[.int .i64 sp, .slice (some ⟨gC, oC, none⟩) nn kC], .agg #[.int .i64 (x0 : Int), .int .i64 (y0 : Int), .int .i64 XX, .int .i64 YY], .agg #[.int .i64 sp, .slice (some ⟨gD, oD, none⟩) nn kD]] w fun e w' => e = .returned (.bool true) ∧ Q w w' := by
  obtain ⟨x, hx⟩ : ∃ x, L[0]? = some x := ⟨_, List.getElem?_eq_getElem (by have := hp.n1; omega)⟩
  obtain ⟨c0, c1, _⟩ := hp.row 0 x hx
  rw [Nat.zero_mul, Nat.add_zero] at c0 c1
  have HE : Hid (∀ x, Q w x → x.cell? ⟨gC, oC, none⟩ = some (.int .i64 (aa : Int)) ∧ x.cell? ⟨gC, oC + 1, none⟩ = some (.int .i64 (bb : Int)) ∧ Pc x gC oC aa bb L ∧ L.length = nn ∧ nn ≤ kC ∧ Pc x gD oD cc dd LD ∧ nn ≤ kD ∧ LD.map PL.S = (L.map PL.S).map (cutL aa x0 y0 cc dd) ∧ Rct aa bb x0 y0 cc dd ∧ XX = (x0 + cc : Nat) ∧ YY = (y0 + dd : Nat)) := fun x q => ⟨q.cell c0, q.cell c1, hp.next q, hn, hk, hd.next q, hkd, hs, hr, hXX, hYY⟩
  have qa : Hid (∀ a b c d e f, Q w (((w.alloc (.cells a b)).alloc (.cells c d)).alloc (.cells e f))) := fun a b c d e f => (((Q.refl w).cells _ _).cells _ _).cells _ _
  clear c0 c1 hx hp hn hk hd hkd hs hr hXX hYY
  obtain ⟨X0, hX0⟩ : ∃ X : Int, (x0 : Int) = X := ⟨_, rfl⟩
  obtain ⟨Y0, hY0⟩ : ∃ X : Int, (y0 : Int) = X := ⟨_, rfl⟩
  have HXY : Hid ((x0 : Int) = X0 ∧ (y0 : Int) = Y0) := ⟨hX0, hY0⟩
  rw [hX0, hY0]
  clear hX0 hY0
  go_enter Try.func9, Try.ntmps9
  go_wp2_with fail
  obtain ⟨e0, e1, h1, h2, h3, h4, h5, h6, h7, h8, h9⟩ := HE.out _ (qa.out #[.int .i64 sp, .slice (some ⟨gC, oC, none⟩) nn kC] 24 #[.int .i64 X0, .int .i64 Y0, .int .i64 XX, .int .i64 YY] 26 #[.int .i64 sp, .slice (some ⟨gD, oD, none⟩) nn kD] 24)
  refine regionPc8 rfl rfl (V3 := w.heap.size) (V4 := w.heap.size + 1) (V5 := w.heap.size + 1 + 1) (gC := gC) (oC := oC) (kC := kC) (nn := nn) (aa := aa) (bb := bb) (x0 := x0) (y0 := y0) (cc := cc) (dd := dd) (gD := gD) (oD := oD) (kD := kD) (XX := XX) (YY := YY) (sp := sp) (L := L) (LD := LD) ⟨rfl, rfl, rfl, by simp [go_sem], by simp [go_sem], by simp [go_sem, HXY.out.1], by simp [go_sem, HXY.out.2], by simp [go_sem], by simp [go_sem], by simp [go_sem], by simp [go_sem], e0, e1, h1, h2, h3, h4, h5, h6, h7, h8, h9⟩ ?_
  intro z v21 qz
  have HX : Hid (Q w z) := (qa.out _ _ _ _ _ _).trans qz
  clear qz e0 e1 h1 h2 h3 h4 h5 h6 h7 h8 h9
  simp only [putAll]
  go_wp2_with fail
  refine bodyPost_ret (v := .bool true) (by simp [results, Try.results9, go_sem]) rfl ⟨rfl, HX.out⟩
end Go.Proofs.Ytdempklpmggdoaa
