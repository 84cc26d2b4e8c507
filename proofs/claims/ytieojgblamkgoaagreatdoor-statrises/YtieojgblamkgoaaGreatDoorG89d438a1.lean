/- Numbers of five words: the program's sums of them. -/
import Derived.Test.YtieojgblamkgoaaGreatDoorG6dfefa34
import Derived.Test.YtieojgblamkgoaaGreatDoorGedd9c870
import Derived.Test.YtieojgblamkgoaaGreatDoorGd2caa4b3
namespace Go.Proofs.YtieojgblamkgoaaGreatDoor
open Go.RowKit
set_option linter.unusedVariables false
set_option linter.unusedSimpArgs false

def m64 : Nat := 18446744073709551616
theorem add64_run (x y c : Nat) (hc : c ≤ 1) (w : World) : (callFunc 94 #[.int .u64 (x : Int), .int .u64 (y : Int), .int .u64 (c : Int)]).run Tryz.prog w = .ok (.value (.tuple #[.int .u64 (((x + y + c) % m64 : Nat) : Int), .int .u64 (((x + y + c) / m64 : Nat) : Int)])) w := by
  rw [run_callFunc_extern (e := add64Entry) Tryz.func94 (by kernel_rfl) (by kernel_rfl) (by kernel_rfl) (by kernel_rfl)]
  have h := run_add64 (P := Tryz.prog) (x : Int) (y : Int) (c : Int) (by omega) (by omega) (by omega) (by omega) w
  rw [h]
  show Result.ok (Next.value _) w = _
  unfold m64
  congr 5 <;> simp
def addE (x y c : Nat) : Nat := (x + y + c) % m64
def addC (x y c : Nat) : Nat := (x + y + c) / m64
section
variable {P : Program} {ρ : Operand → Value} {x : World} {d : Option Tmp} {ty : TypeId} {ps : String} {af : Array Edge} {g : Option (Nat × Bool)}
theorem run_mv {j : Nat} {v : Value} (h : ρ (.tmp j) = v) : (execOp ρ { dst := d, op := .move (.tmp j), type := ty, pos := ps, after := af, guard := g }).run P x = .ok (.value v) x := by
  rw [← h]; rfl
theorem run_as {j : Nat} {v : Value} (h : ρ (.tmp j) = v) : (execOp ρ { dst := d, op := .assign (.tmp j), type := ty, pos := ps, after := af, guard := g }).run P x = .ok (.value v) x := by
  rw [← h]; rfl
theorem run_ex0 {j : Nat} {u v : Value} (h : ρ (.tmp j) = .tuple #[u, v]) : (execOp ρ { dst := d, op := .extract (.tmp j) 0, type := ty, pos := ps, after := af, guard := g }).run P x = .ok (.value u) x := by
  simp [execOp, h, go_sem]
theorem run_ex1 {j : Nat} {u v : Value} (h : ρ (.tmp j) = .tuple #[u, v]) : (execOp ρ { dst := d, op := .extract (.tmp j) 1, type := ty, pos := ps, after := af, guard := g }).run P x = .ok (.value v) x := by
  simp [execOp, h, go_sem]
theorem run_word {j k B i : Nat} (h : ρ (.tmp j) = .pointer (some ⟨B, 0, none⟩)) (h' : ρ (.tmp k) = .int .i64 (i : Nat)) (hi : i < 5) : (execOp ρ { dst := d, op := .indexAddr 112 (.tmp j) (.tmp k), type := ty, pos := ps, after := af, guard := g }).run Tryz.prog x = .ok (.value (.pointer (some ⟨B, i, none⟩))) x := by
  simp [execOp, h, h', go_sem, hi]
  try (intro h4; omega)
theorem run_u64 {j : Nat} {p : Addr} {v : Value} (h : ρ (.tmp j) = .pointer (some p)) (c : x.cell? p = some v) : (execOp ρ { dst := d, op := .load 110 (.tmp j), type := ty, pos := ps, after := af, guard := g }).run Tryz.prog x = .ok (.value v) x := by
  simp [execOp, h, go_sem, c]
set_option maxRecDepth 100000 in
theorem run_put {j k : Nat} {B i : Nat} {n : Int} {u : Value} (h : ρ (.tmp j) = .pointer (some ⟨B, i, none⟩)) (h' : ρ (.tmp k) = .int .u64 n) (c : x.cell? ⟨B, i, none⟩ = some u) (f : x.frozen? ⟨B, i, none⟩ = false) : (execOp ρ { dst := none, op := .store 110 (.tmp j) (.tmp k), type := ty, pos := ps, after := af, guard := g }).run Tryz.prog x = .ok .skip (x.setCell ⟨B, i, none⟩ (.int .u64 n)) := by
  simp [execOp, h, h', go_sem, c, f]
theorem run_add64c {a : Act} {j k l : Nat} {n m c : Nat} (h : a.eval (.tmp j) = .int .u64 (n : Nat)) (h' : a.eval (.tmp k) = .int .u64 (m : Nat)) (h'' : a.eval (.tmp l) = .int .u64 (c : Nat)) (hc : c ≤ 1) {at' : Array TypeId} : (execOp a.eval { dst := d, op := .call { callee := .value (.func 94), args := #[.tmp j, .tmp k, .tmp l], argTypes := at' }, type := ty, pos := ps, after := af, guard := g }).run Tryz.prog x = .ok (.value (.tuple #[.int .u64 (addE n m c : Nat), .int .u64 (addC n m c : Nat)])) x := by
  have e : (#[] ++ (#[Operand.tmp j, .tmp k, .tmp l].map a.eval) ++ #[] : Array Value) = #[.int .u64 (n : Nat), .int .u64 (m : Nat), .int .u64 (c : Nat)] := by simp [h, h', h'']
  have r := add64_run n m c hc x
  rw [← e] at r
  exact r
end
def oPL_0 : Oper := { dst := some 11, op := .move (.tmp 6), type := 3, pos := "number.go:46", after := #[], guard := none }
def oPL_1 : Oper := { dst := some 12, op := .move (.tmp 6), type := 3, pos := "number.go:46", after := #[], guard := none }
def oPL_2 : Oper := { dst := some 13, op := .indexAddr 112 (.tmp 2) (.tmp 12), type := 0, pos := "number.go:46", after := #[⟨1, .data⟩], guard := none }
def oPL_3 : Oper := { dst := some 14, op := .load 110 (.tmp 13), type := 110, pos := "number.go:46", after := #[⟨2, .data⟩], guard := none }
def oPL_4 : Oper := { dst := some 15, op := .move (.tmp 6), type := 3, pos := "number.go:46", after := #[], guard := none }
def oPL_5 : Oper := { dst := some 16, op := .indexAddr 112 (.tmp 3) (.tmp 15), type := 0, pos := "number.go:46", after := #[⟨4, .data⟩], guard := none }
def oPL_6 : Oper := { dst := some 17, op := .load 110 (.tmp 16), type := 110, pos := "number.go:46", after := #[⟨5, .data⟩], guard := none }
def oPL_7 : Oper := { dst := some 18, op := .move (.tmp 5), type := 110, pos := "number.go:46", after := #[], guard := none }
def oPL_8 : Oper := { dst := some 19, op := .call { callee := .value (.func 94), args := #[.tmp 14, .tmp 17, .tmp 18], argTypes := #[110, 110, 110] }, type := 134, pos := "number.go:46", after := #[⟨3, .data⟩, ⟨6, .data⟩, ⟨7, .data⟩], guard := none }
def oPL_9 : Oper := { dst := some 10, op := .move (.tmp 19), type := 134, pos := "number.go:46", after := #[⟨8, .data⟩], guard := none }
def oPL_10 : Oper := { dst := some 20, op := .extract (.tmp 10) 0, type := 110, pos := "number.go:46", after := #[⟨9, .data⟩], guard := none }
def oPL_11 : Oper := { dst := some 21, op := .extract (.tmp 10) 1, type := 110, pos := "number.go:46", after := #[⟨9, .data⟩, ⟨13, .gcOnly .lateStores⟩], guard := none }
def oPL_12 : Oper := { dst := some 22, op := .indexAddr 112 (.tmp 2) (.tmp 11), type := 0, pos := "number.go:46", after := #[⟨0, .data⟩, ⟨0, .phase⟩, ⟨1, .phase⟩, ⟨2, .phase⟩, ⟨3, .phase⟩, ⟨4, .phase⟩, ⟨5, .phase⟩, ⟨6, .phase⟩, ⟨7, .phase⟩, ⟨8, .phase⟩, ⟨9, .phase⟩, ⟨10, .phase⟩, ⟨11, .textOnly .lateStores⟩], guard := none }
def oPL_13 : Oper := { dst := none, op := .store 110 (.tmp 22) (.tmp 20), type := 0, pos := "number.go:46", after := #[⟨12, .data⟩, ⟨10, .data⟩, ⟨8, .chain⟩, ⟨0, .phase⟩, ⟨1, .phase⟩, ⟨2, .phase⟩, ⟨3, .phase⟩, ⟨4, .phase⟩, ⟨5, .phase⟩, ⟨6, .phase⟩, ⟨7, .phase⟩, ⟨8, .phase⟩, ⟨9, .phase⟩, ⟨10, .phase⟩, ⟨11, .textOnly .lateStores⟩], guard := none }
def oPL_14 : Oper := { dst := some 5, op := .assign (.tmp 21), type := 110, pos := "number.go:46", after := #[⟨11, .data⟩, ⟨13, .chain⟩, ⟨0, .phase⟩, ⟨1, .phase⟩, ⟨2, .phase⟩, ⟨3, .phase⟩, ⟨4, .phase⟩, ⟨5, .phase⟩, ⟨6, .phase⟩, ⟨7, .phase⟩, ⟨8, .phase⟩, ⟨9, .phase⟩, ⟨10, .phase⟩, ⟨11, .phase⟩, ⟨12, .phase⟩, ⟨13, .phase⟩], guard := none }
def opsPL : List Oper := [oPL_0, oPL_1, oPL_2, oPL_3, oPL_4, oPL_5, oPL_6, oPL_7, oPL_8, oPL_9, oPL_10, oPL_11, oPL_12, oPL_13, oPL_14]
def vPL (B2 B3 ix nn mm cy : Nat) (i : Nat) : Value := ([.int .i64 (ix : Nat), .int .i64 (ix : Nat), .pointer (some ⟨B2, ix, none⟩), .int .u64 (nn : Nat), .int .i64 (ix : Nat), .pointer (some ⟨B3, ix, none⟩), .int .u64 (mm : Nat), .int .u64 (cy : Nat), .tuple #[.int .u64 (addE nn mm cy : Nat), .int .u64 (addC nn mm cy : Nat)], .tuple #[.int .u64 (addE nn mm cy : Nat), .int .u64 (addC nn mm cy : Nat)], .int .u64 (addE nn mm cy : Nat), .int .u64 (addC nn mm cy : Nat), .pointer (some ⟨B2, ix, none⟩), undef, .int .u64 (addC nn mm cy : Nat)] : List Value).getD i undef
structure EnvPL (a0 : Act) (w : World) (B2 B3 ix nn mm cy : Nat) : Prop where
  h2 : a0.tmps[2]? = some (.pointer (some ⟨B2, 0, none⟩))
  h3 : a0.tmps[3]? = some (.pointer (some ⟨B3, 0, none⟩))
  h5 : a0.tmps[5]? = some (.int .u64 (cy : Nat))
  h6 : a0.tmps[6]? = some (.int .i64 (ix : Nat))
  hi : ix < 5
  hc : cy ≤ 1
  c2 : w.drew.cell? ⟨B2, ix, none⟩ = some (.int .u64 (nn : Nat))
  c3 : w.drew.cell? ⟨B3, ix, none⟩ = some (.int .u64 (mm : Nat))
  z2 : w.drew.frozen? ⟨B2, ix, none⟩ = false
theorem dstPL {k j : Nat} (h : dstOf opsPL k = some j) : j ∈ [5, 10, 11, 12, 13, 14, 15, 16, 17, 18, 19, 20, 21, 22] := by
  rcases k with _ | _ | _ | _ | _ | _ | _ | _ | _ | _ | _ | _ | _ | _ | _ | k
  · have e := Option.some.inj h; subst e; decide
  · have e := Option.some.inj h; subst e; decide
  · have e := Option.some.inj h; subst e; decide
  · have e := Option.some.inj h; subst e; decide
  · have e := Option.some.inj h; subst e; decide
  · have e := Option.some.inj h; subst e; decide
  · have e := Option.some.inj h; subst e; decide
  · have e := Option.some.inj h; subst e; decide
  · have e := Option.some.inj h; subst e; decide
  · have e := Option.some.inj h; subst e; decide
  · have e := Option.some.inj h; subst e; decide
  · have e := Option.some.inj h; subst e; decide
  · have e := Option.some.inj h; subst e; decide
  · cases h
  · have e := Option.some.inj h; subst e; decide
  · cases h
theorem yPL_0 {a0 : Act} {w : World} {B2 B3 ix nn mm cy : Nat} (E : EnvPL a0 w B2 B3 ix nn mm cy) {a : Act} {x : World} (hx : x = w.drew ∨ (x = w.drew.setCell ⟨B2, ix, none⟩ (.int .u64 (addE nn mm cy : Nat)) ∧ waits opsPL 13 0 = false)) (oth : ∀ j, (∀ k, dstOf opsPL k ≠ some j) → a.tmps[j]? = a0.tmps[j]?) (dep : ∀ e ∈ oPL_0.after, Region.binds .any e = true → e.on ≠ 13 → ∀ t, dstOf opsPL e.on = some t → a.tmps[t]? = some (vPL B2 B3 ix nn mm cy e.on)) (fr : ∀ j t, waits opsPL j 0 = true → dstOf opsPL j = some t → a.tmps[t]? = a0.tmps[t]?) : (execOp a.eval oPL_0).run Tryz.prog x = .ok (.value (vPL B2 B3 ix nn mm cy 0)) x := by
  exact run_mv (tmp_eval ((oth 6 (fun k h => absurd (dstPL h) (by decide))).trans E.h6))
theorem yPL_1 {a0 : Act} {w : World} {B2 B3 ix nn mm cy : Nat} (E : EnvPL a0 w B2 B3 ix nn mm cy) {a : Act} {x : World} (hx : x = w.drew ∨ (x = w.drew.setCell ⟨B2, ix, none⟩ (.int .u64 (addE nn mm cy : Nat)) ∧ waits opsPL 13 1 = false)) (oth : ∀ j, (∀ k, dstOf opsPL k ≠ some j) → a.tmps[j]? = a0.tmps[j]?) (dep : ∀ e ∈ oPL_1.after, Region.binds .any e = true → e.on ≠ 13 → ∀ t, dstOf opsPL e.on = some t → a.tmps[t]? = some (vPL B2 B3 ix nn mm cy e.on)) (fr : ∀ j t, waits opsPL j 1 = true → dstOf opsPL j = some t → a.tmps[t]? = a0.tmps[t]?) : (execOp a.eval oPL_1).run Tryz.prog x = .ok (.value (vPL B2 B3 ix nn mm cy 1)) x := by
  exact run_mv (tmp_eval ((oth 6 (fun k h => absurd (dstPL h) (by decide))).trans E.h6))
theorem yPL_2 {a0 : Act} {w : World} {B2 B3 ix nn mm cy : Nat} (E : EnvPL a0 w B2 B3 ix nn mm cy) {a : Act} {x : World} (hx : x = w.drew ∨ (x = w.drew.setCell ⟨B2, ix, none⟩ (.int .u64 (addE nn mm cy : Nat)) ∧ waits opsPL 13 2 = false)) (oth : ∀ j, (∀ k, dstOf opsPL k ≠ some j) → a.tmps[j]? = a0.tmps[j]?) (dep : ∀ e ∈ oPL_2.after, Region.binds .any e = true → e.on ≠ 13 → ∀ t, dstOf opsPL e.on = some t → a.tmps[t]? = some (vPL B2 B3 ix nn mm cy e.on)) (fr : ∀ j t, waits opsPL j 2 = true → dstOf opsPL j = some t → a.tmps[t]? = a0.tmps[t]?) : (execOp a.eval oPL_2).run Tryz.prog x = .ok (.value (vPL B2 B3 ix nn mm cy 2)) x := by
  have t1 : a.tmps[12]? = some (.int .i64 (ix : Nat)) := dep ⟨1, .data⟩ (by simp [oPL_2]) rfl (by decide) 12 rfl
  exact run_word (tmp_eval ((oth 2 (fun k h => absurd (dstPL h) (by decide))).trans E.h2)) (tmp_eval t1) E.hi
theorem yPL_3 {a0 : Act} {w : World} {B2 B3 ix nn mm cy : Nat} (E : EnvPL a0 w B2 B3 ix nn mm cy) {a : Act} {x : World} (hx : x = w.drew ∨ (x = w.drew.setCell ⟨B2, ix, none⟩ (.int .u64 (addE nn mm cy : Nat)) ∧ waits opsPL 13 3 = false)) (oth : ∀ j, (∀ k, dstOf opsPL k ≠ some j) → a.tmps[j]? = a0.tmps[j]?) (dep : ∀ e ∈ oPL_3.after, Region.binds .any e = true → e.on ≠ 13 → ∀ t, dstOf opsPL e.on = some t → a.tmps[t]? = some (vPL B2 B3 ix nn mm cy e.on)) (fr : ∀ j t, waits opsPL j 3 = true → dstOf opsPL j = some t → a.tmps[t]? = a0.tmps[t]?) : (execOp a.eval oPL_3).run Tryz.prog x = .ok (.value (vPL B2 B3 ix nn mm cy 3)) x := by
  have t2 : a.tmps[13]? = some (.pointer (some ⟨B2, ix, none⟩)) := dep ⟨2, .data⟩ (by simp [oPL_3]) rfl (by decide) 13 rfl
  rcases hx with rfl | ⟨_, hx⟩
  · exact run_u64 (tmp_eval t2) E.c2
  · exact absurd hx (by decide +kernel)
theorem yPL_4 {a0 : Act} {w : World} {B2 B3 ix nn mm cy : Nat} (E : EnvPL a0 w B2 B3 ix nn mm cy) {a : Act} {x : World} (hx : x = w.drew ∨ (x = w.drew.setCell ⟨B2, ix, none⟩ (.int .u64 (addE nn mm cy : Nat)) ∧ waits opsPL 13 4 = false)) (oth : ∀ j, (∀ k, dstOf opsPL k ≠ some j) → a.tmps[j]? = a0.tmps[j]?) (dep : ∀ e ∈ oPL_4.after, Region.binds .any e = true → e.on ≠ 13 → ∀ t, dstOf opsPL e.on = some t → a.tmps[t]? = some (vPL B2 B3 ix nn mm cy e.on)) (fr : ∀ j t, waits opsPL j 4 = true → dstOf opsPL j = some t → a.tmps[t]? = a0.tmps[t]?) : (execOp a.eval oPL_4).run Tryz.prog x = .ok (.value (vPL B2 B3 ix nn mm cy 4)) x := by
  exact run_mv (tmp_eval ((oth 6 (fun k h => absurd (dstPL h) (by decide))).trans E.h6))
theorem yPL_5 {a0 : Act} {w : World} {B2 B3 ix nn mm cy : Nat} (E : EnvPL a0 w B2 B3 ix nn mm cy) {a : Act} {x : World} (hx : x = w.drew ∨ (x = w.drew.setCell ⟨B2, ix, none⟩ (.int .u64 (addE nn mm cy : Nat)) ∧ waits opsPL 13 5 = false)) (oth : ∀ j, (∀ k, dstOf opsPL k ≠ some j) → a.tmps[j]? = a0.tmps[j]?) (dep : ∀ e ∈ oPL_5.after, Region.binds .any e = true → e.on ≠ 13 → ∀ t, dstOf opsPL e.on = some t → a.tmps[t]? = some (vPL B2 B3 ix nn mm cy e.on)) (fr : ∀ j t, waits opsPL j 5 = true → dstOf opsPL j = some t → a.tmps[t]? = a0.tmps[t]?) : (execOp a.eval oPL_5).run Tryz.prog x = .ok (.value (vPL B2 B3 ix nn mm cy 5)) x := by
  have t4 : a.tmps[15]? = some (.int .i64 (ix : Nat)) := dep ⟨4, .data⟩ (by simp [oPL_5]) rfl (by decide) 15 rfl
  exact run_word (tmp_eval ((oth 3 (fun k h => absurd (dstPL h) (by decide))).trans E.h3)) (tmp_eval t4) E.hi
theorem yPL_6 {a0 : Act} {w : World} {B2 B3 ix nn mm cy : Nat} (E : EnvPL a0 w B2 B3 ix nn mm cy) {a : Act} {x : World} (hx : x = w.drew ∨ (x = w.drew.setCell ⟨B2, ix, none⟩ (.int .u64 (addE nn mm cy : Nat)) ∧ waits opsPL 13 6 = false)) (oth : ∀ j, (∀ k, dstOf opsPL k ≠ some j) → a.tmps[j]? = a0.tmps[j]?) (dep : ∀ e ∈ oPL_6.after, Region.binds .any e = true → e.on ≠ 13 → ∀ t, dstOf opsPL e.on = some t → a.tmps[t]? = some (vPL B2 B3 ix nn mm cy e.on)) (fr : ∀ j t, waits opsPL j 6 = true → dstOf opsPL j = some t → a.tmps[t]? = a0.tmps[t]?) : (execOp a.eval oPL_6).run Tryz.prog x = .ok (.value (vPL B2 B3 ix nn mm cy 6)) x := by
  have t5 : a.tmps[16]? = some (.pointer (some ⟨B3, ix, none⟩)) := dep ⟨5, .data⟩ (by simp [oPL_6]) rfl (by decide) 16 rfl
  rcases hx with rfl | ⟨_, hx⟩
  · exact run_u64 (tmp_eval t5) E.c3
  · exact absurd hx (by decide +kernel)
theorem yPL_7 {a0 : Act} {w : World} {B2 B3 ix nn mm cy : Nat} (E : EnvPL a0 w B2 B3 ix nn mm cy) {a : Act} {x : World} (hx : x = w.drew ∨ (x = w.drew.setCell ⟨B2, ix, none⟩ (.int .u64 (addE nn mm cy : Nat)) ∧ waits opsPL 13 7 = false)) (oth : ∀ j, (∀ k, dstOf opsPL k ≠ some j) → a.tmps[j]? = a0.tmps[j]?) (dep : ∀ e ∈ oPL_7.after, Region.binds .any e = true → e.on ≠ 13 → ∀ t, dstOf opsPL e.on = some t → a.tmps[t]? = some (vPL B2 B3 ix nn mm cy e.on)) (fr : ∀ j t, waits opsPL j 7 = true → dstOf opsPL j = some t → a.tmps[t]? = a0.tmps[t]?) : (execOp a.eval oPL_7).run Tryz.prog x = .ok (.value (vPL B2 B3 ix nn mm cy 7)) x := by
  exact run_mv (tmp_eval ((fr 14 5 (by decide +kernel) rfl).trans E.h5))
theorem yPL_8 {a0 : Act} {w : World} {B2 B3 ix nn mm cy : Nat} (E : EnvPL a0 w B2 B3 ix nn mm cy) {a : Act} {x : World} (hx : x = w.drew ∨ (x = w.drew.setCell ⟨B2, ix, none⟩ (.int .u64 (addE nn mm cy : Nat)) ∧ waits opsPL 13 8 = false)) (oth : ∀ j, (∀ k, dstOf opsPL k ≠ some j) → a.tmps[j]? = a0.tmps[j]?) (dep : ∀ e ∈ oPL_8.after, Region.binds .any e = true → e.on ≠ 13 → ∀ t, dstOf opsPL e.on = some t → a.tmps[t]? = some (vPL B2 B3 ix nn mm cy e.on)) (fr : ∀ j t, waits opsPL j 8 = true → dstOf opsPL j = some t → a.tmps[t]? = a0.tmps[t]?) : (execOp a.eval oPL_8).run Tryz.prog x = .ok (.value (vPL B2 B3 ix nn mm cy 8)) x := by
  have t3 : a.tmps[14]? = some (.int .u64 (nn : Nat)) := dep ⟨3, .data⟩ (by simp [oPL_8]) rfl (by decide) 14 rfl
  have t6 : a.tmps[17]? = some (.int .u64 (mm : Nat)) := dep ⟨6, .data⟩ (by simp [oPL_8]) rfl (by decide) 17 rfl
  have t7 : a.tmps[18]? = some (.int .u64 (cy : Nat)) := dep ⟨7, .data⟩ (by simp [oPL_8]) rfl (by decide) 18 rfl
  exact run_add64c (tmp_eval t3) (tmp_eval t6) (tmp_eval t7) E.hc
theorem yPL_9 {a0 : Act} {w : World} {B2 B3 ix nn mm cy : Nat} (E : EnvPL a0 w B2 B3 ix nn mm cy) {a : Act} {x : World} (hx : x = w.drew ∨ (x = w.drew.setCell ⟨B2, ix, none⟩ (.int .u64 (addE nn mm cy : Nat)) ∧ waits opsPL 13 9 = false)) (oth : ∀ j, (∀ k, dstOf opsPL k ≠ some j) → a.tmps[j]? = a0.tmps[j]?) (dep : ∀ e ∈ oPL_9.after, Region.binds .any e = true → e.on ≠ 13 → ∀ t, dstOf opsPL e.on = some t → a.tmps[t]? = some (vPL B2 B3 ix nn mm cy e.on)) (fr : ∀ j t, waits opsPL j 9 = true → dstOf opsPL j = some t → a.tmps[t]? = a0.tmps[t]?) : (execOp a.eval oPL_9).run Tryz.prog x = .ok (.value (vPL B2 B3 ix nn mm cy 9)) x := by
  have t8 : a.tmps[19]? = some (.tuple #[.int .u64 (addE nn mm cy : Nat), .int .u64 (addC nn mm cy : Nat)]) := dep ⟨8, .data⟩ (by simp [oPL_9]) rfl (by decide) 19 rfl
  exact run_mv (tmp_eval t8)
theorem yPL_10 {a0 : Act} {w : World} {B2 B3 ix nn mm cy : Nat} (E : EnvPL a0 w B2 B3 ix nn mm cy) {a : Act} {x : World} (hx : x = w.drew ∨ (x = w.drew.setCell ⟨B2, ix, none⟩ (.int .u64 (addE nn mm cy : Nat)) ∧ waits opsPL 13 10 = false)) (oth : ∀ j, (∀ k, dstOf opsPL k ≠ some j) → a.tmps[j]? = a0.tmps[j]?) (dep : ∀ e ∈ oPL_10.after, Region.binds .any e = true → e.on ≠ 13 → ∀ t, dstOf opsPL e.on = some t → a.tmps[t]? = some (vPL B2 B3 ix nn mm cy e.on)) (fr : ∀ j t, waits opsPL j 10 = true → dstOf opsPL j = some t → a.tmps[t]? = a0.tmps[t]?) : (execOp a.eval oPL_10).run Tryz.prog x = .ok (.value (vPL B2 B3 ix nn mm cy 10)) x := by
  have t9 : a.tmps[10]? = some (.tuple #[.int .u64 (addE nn mm cy : Nat), .int .u64 (addC nn mm cy : Nat)]) := dep ⟨9, .data⟩ (by simp [oPL_10]) rfl (by decide) 10 rfl
  exact run_ex0 (tmp_eval t9)
theorem yPL_11 {a0 : Act} {w : World} {B2 B3 ix nn mm cy : Nat} (E : EnvPL a0 w B2 B3 ix nn mm cy) {a : Act} {x : World} (hx : x = w.drew ∨ (x = w.drew.setCell ⟨B2, ix, none⟩ (.int .u64 (addE nn mm cy : Nat)) ∧ waits opsPL 13 11 = false)) (oth : ∀ j, (∀ k, dstOf opsPL k ≠ some j) → a.tmps[j]? = a0.tmps[j]?) (dep : ∀ e ∈ oPL_11.after, Region.binds .any e = true → e.on ≠ 13 → ∀ t, dstOf opsPL e.on = some t → a.tmps[t]? = some (vPL B2 B3 ix nn mm cy e.on)) (fr : ∀ j t, waits opsPL j 11 = true → dstOf opsPL j = some t → a.tmps[t]? = a0.tmps[t]?) : (execOp a.eval oPL_11).run Tryz.prog x = .ok (.value (vPL B2 B3 ix nn mm cy 11)) x := by
  have t9 : a.tmps[10]? = some (.tuple #[.int .u64 (addE nn mm cy : Nat), .int .u64 (addC nn mm cy : Nat)]) := dep ⟨9, .data⟩ (by simp [oPL_11]) rfl (by decide) 10 rfl
  exact run_ex1 (tmp_eval t9)
theorem yPL_12 {a0 : Act} {w : World} {B2 B3 ix nn mm cy : Nat} (E : EnvPL a0 w B2 B3 ix nn mm cy) {a : Act} {x : World} (hx : x = w.drew ∨ (x = w.drew.setCell ⟨B2, ix, none⟩ (.int .u64 (addE nn mm cy : Nat)) ∧ waits opsPL 13 12 = false)) (oth : ∀ j, (∀ k, dstOf opsPL k ≠ some j) → a.tmps[j]? = a0.tmps[j]?) (dep : ∀ e ∈ oPL_12.after, Region.binds .any e = true → e.on ≠ 13 → ∀ t, dstOf opsPL e.on = some t → a.tmps[t]? = some (vPL B2 B3 ix nn mm cy e.on)) (fr : ∀ j t, waits opsPL j 12 = true → dstOf opsPL j = some t → a.tmps[t]? = a0.tmps[t]?) : (execOp a.eval oPL_12).run Tryz.prog x = .ok (.value (vPL B2 B3 ix nn mm cy 12)) x := by
  have t0 : a.tmps[11]? = some (.int .i64 (ix : Nat)) := dep ⟨0, .data⟩ (by simp [oPL_12]) rfl (by decide) 11 rfl
  exact run_word (tmp_eval ((oth 2 (fun k h => absurd (dstPL h) (by decide))).trans E.h2)) (tmp_eval t0) E.hi
theorem yPL_13 {a0 : Act} {w : World} {B2 B3 ix nn mm cy : Nat} (E : EnvPL a0 w B2 B3 ix nn mm cy) {a : Act} (oth : ∀ j, (∀ k, dstOf opsPL k ≠ some j) → a.tmps[j]? = a0.tmps[j]?) (dep : ∀ e ∈ oPL_13.after, Region.binds .any e = true → e.on ≠ 13 → ∀ t, dstOf opsPL e.on = some t → a.tmps[t]? = some (vPL B2 B3 ix nn mm cy e.on)) : (execOp a.eval oPL_13).run Tryz.prog w.drew = .ok .skip (w.drew.setCell ⟨B2, ix, none⟩ (.int .u64 (addE nn mm cy : Nat))) := by
  have t12 : a.tmps[22]? = some (.pointer (some ⟨B2, ix, none⟩)) := dep ⟨12, .data⟩ (by simp [oPL_13]) rfl (by decide) 22 rfl
  have t10 : a.tmps[20]? = some (.int .u64 (addE nn mm cy : Nat)) := dep ⟨10, .data⟩ (by simp [oPL_13]) rfl (by decide) 20 rfl
  exact run_put (tmp_eval t12) (tmp_eval t10) E.c2 E.z2
theorem yPL_14 {a0 : Act} {w : World} {B2 B3 ix nn mm cy : Nat} (E : EnvPL a0 w B2 B3 ix nn mm cy) {a : Act} {x : World} (hx : x = w.drew ∨ (x = w.drew.setCell ⟨B2, ix, none⟩ (.int .u64 (addE nn mm cy : Nat)) ∧ waits opsPL 13 14 = false)) (oth : ∀ j, (∀ k, dstOf opsPL k ≠ some j) → a.tmps[j]? = a0.tmps[j]?) (dep : ∀ e ∈ oPL_14.after, Region.binds .any e = true → e.on ≠ 13 → ∀ t, dstOf opsPL e.on = some t → a.tmps[t]? = some (vPL B2 B3 ix nn mm cy e.on)) (fr : ∀ j t, waits opsPL j 14 = true → dstOf opsPL j = some t → a.tmps[t]? = a0.tmps[t]?) : (execOp a.eval oPL_14).run Tryz.prog x = .ok (.value (vPL B2 B3 ix nn mm cy 14)) x := by
  have t11 : a.tmps[21]? = some (.int .u64 (addC nn mm cy : Nat)) := dep ⟨11, .data⟩ (by simp [oPL_14]) rfl (by decide) 21 rfl
  exact run_as (tmp_eval t11)
theorem hopPL {a0 : Act} {w : World} {B2 B3 ix nn mm cy : Nat} (E : EnvPL a0 w B2 B3 ix nn mm cy) : ∀ (i : Nat) (o : Oper) (a : Act) (x : World), opsPL[i]? = some o → i ≠ 13 → (x = w.drew ∨ (x = w.drew.setCell ⟨B2, ix, none⟩ (.int .u64 (addE nn mm cy : Nat)) ∧ waits opsPL 13 i = false)) → (∀ j, (∀ k, dstOf opsPL k ≠ some j) → a.tmps[j]? = a0.tmps[j]?) → (∀ e ∈ o.after, Region.binds .any e = true → e.on ≠ 13 → ∀ t, dstOf opsPL e.on = some t → a.tmps[t]? = some (vPL B2 B3 ix nn mm cy e.on)) → (∀ j t, waits opsPL j i = true → dstOf opsPL j = some t → a.tmps[t]? = a0.tmps[t]?) → ∃ t, o.dst = some t ∧ (execOp a.eval o).run Tryz.prog x = .ok (.value (vPL B2 B3 ix nn mm cy i)) x
  | 0, o, a, x, ho, hi, hx, oth, dep, fr => by
    have e1 : oPL_0 = o := Option.some.inj ho
    subst e1
    exact ⟨11, rfl, yPL_0 E hx oth dep fr⟩
  | 1, o, a, x, ho, hi, hx, oth, dep, fr => by
    have e1 : oPL_1 = o := Option.some.inj ho
    subst e1
    exact ⟨12, rfl, yPL_1 E hx oth dep fr⟩
  | 2, o, a, x, ho, hi, hx, oth, dep, fr => by
    have e1 : oPL_2 = o := Option.some.inj ho
    subst e1
    exact ⟨13, rfl, yPL_2 E hx oth dep fr⟩
  | 3, o, a, x, ho, hi, hx, oth, dep, fr => by
    have e1 : oPL_3 = o := Option.some.inj ho
    subst e1
    exact ⟨14, rfl, yPL_3 E hx oth dep fr⟩
  | 4, o, a, x, ho, hi, hx, oth, dep, fr => by
    have e1 : oPL_4 = o := Option.some.inj ho
    subst e1
    exact ⟨15, rfl, yPL_4 E hx oth dep fr⟩
  | 5, o, a, x, ho, hi, hx, oth, dep, fr => by
    have e1 : oPL_5 = o := Option.some.inj ho
    subst e1
    exact ⟨16, rfl, yPL_5 E hx oth dep fr⟩
  | 6, o, a, x, ho, hi, hx, oth, dep, fr => by
    have e1 : oPL_6 = o := Option.some.inj ho
    subst e1
    exact ⟨17, rfl, yPL_6 E hx oth dep fr⟩
  | 7, o, a, x, ho, hi, hx, oth, dep, fr => by
    have e1 : oPL_7 = o := Option.some.inj ho
    subst e1
    exact ⟨18, rfl, yPL_7 E hx oth dep fr⟩
  | 8, o, a, x, ho, hi, hx, oth, dep, fr => by
    have e1 : oPL_8 = o := Option.some.inj ho
    subst e1
    exact ⟨19, rfl, yPL_8 E hx oth dep fr⟩
  | 9, o, a, x, ho, hi, hx, oth, dep, fr => by
    have e1 : oPL_9 = o := Option.some.inj ho
    subst e1
    exact ⟨10, rfl, yPL_9 E hx oth dep fr⟩
  | 10, o, a, x, ho, hi, hx, oth, dep, fr => by
    have e1 : oPL_10 = o := Option.some.inj ho
    subst e1
    exact ⟨20, rfl, yPL_10 E hx oth dep fr⟩
  | 11, o, a, x, ho, hi, hx, oth, dep, fr => by
    have e1 : oPL_11 = o := Option.some.inj ho
    subst e1
    exact ⟨21, rfl, yPL_11 E hx oth dep fr⟩
  | 12, o, a, x, ho, hi, hx, oth, dep, fr => by
    have e1 : oPL_12 = o := Option.some.inj ho
    subst e1
    exact ⟨22, rfl, yPL_12 E hx oth dep fr⟩
  | 13, o, a, x, ho, hi, hx, oth, dep, fr => absurd rfl hi
  | 14, o, a, x, ho, hi, hx, oth, dep, fr => by
    have e1 : oPL_14 = o := Option.some.inj ho
    subst e1
    exact ⟨5, rfl, yPL_14 E hx oth dep fr⟩
  | i + 15, o, a, x, ho, hi, hx, oth, dep, fr => by cases ho
theorem gdPL : ∀ (i : Nat) (o : Oper), opsPL[i]? = some o → o.guard = none := by
  intro i o ho
  rcases i with _ | _ | _ | _ | _ | _ | _ | _ | _ | _ | _ | _ | _ | _ | _ | i
  · have e := Option.some.inj ho; subst e; rfl
  · have e := Option.some.inj ho; subst e; rfl
  · have e := Option.some.inj ho; subst e; rfl
  · have e := Option.some.inj ho; subst e; rfl
  · have e := Option.some.inj ho; subst e; rfl
  · have e := Option.some.inj ho; subst e; rfl
  · have e := Option.some.inj ho; subst e; rfl
  · have e := Option.some.inj ho; subst e; rfl
  · have e := Option.some.inj ho; subst e; rfl
  · have e := Option.some.inj ho; subst e; rfl
  · have e := Option.some.inj ho; subst e; rfl
  · have e := Option.some.inj ho; subst e; rfl
  · have e := Option.some.inj ho; subst e; rfl
  · have e := Option.some.inj ho; subst e; rfl
  · have e := Option.some.inj ho; subst e; rfl
  · cases ho
theorem regionPL {id : Nat} {l : List Oper} {R : Exit → Act → World → Prop} {a0 : Act} {w : World} {B2 B3 ix nn mm cy : Nat} (hl : l = opsPL) (hsz : a0.tmps.size = 25) (E : EnvPL a0 w B2 B3 ix nn mm cy)
    (hR : R .normal (putAll a0 [(11, .int .i64 (ix : Nat)), (12, .int .i64 (ix : Nat)), (13, .pointer (some ⟨B2, ix, none⟩)), (14, .int .u64 (nn : Nat)), (15, .int .i64 (ix : Nat)), (16, .pointer (some ⟨B3, ix, none⟩)), (17, .int .u64 (mm : Nat)), (18, .int .u64 (cy : Nat)), (19, .tuple #[.int .u64 (addE nn mm cy : Nat), .int .u64 (addC nn mm cy : Nat)]), (10, .tuple #[.int .u64 (addE nn mm cy : Nat), .int .u64 (addC nn mm cy : Nat)]), (20, .int .u64 (addE nn mm cy : Nat)), (21, .int .u64 (addC nn mm cy : Nat)), (22, .pointer (some ⟨B2, ix, none⟩)), (5, .int .u64 (addC nn mm cy : Nat))]) (w.drew.setCell ⟨B2, ix, none⟩ (.int .u64 (addE nn mm cy : Nat)))) :
    (Code.region id l.toArray true).wp Tryz.prog R a0 w := by
  subst hl
  refine wp_region_vals (vPL B2 B3 ix nn mm cy) 13 (w.drew.setCell ⟨B2, ix, none⟩ (.int .u64 (addE nn mm cy : Nat))) (by kernel_rfl) (by decide +kernel) (fun i t h => ?_) ⟨oPL_13, rfl, rfl⟩ gdPL (hopPL E) (fun o a ho oth dep => ?_) (fun a size defers other vals => ?_)
  · rw [hsz]
    exact (by decide : ∀ t ∈ [5, 10, 11, 12, 13, 14, 15, 16, 17, 18, 19, 20, 21, 22], t < 25) t (dstPL h)
  · have e1 : oPL_13 = o := Option.some.inj ho
    subst e1
    exact yPL_13 E oth dep
  · have hA := act_puts (a := a) (a0 := a0) [(11, .int .i64 (ix : Nat)), (12, .int .i64 (ix : Nat)), (13, .pointer (some ⟨B2, ix, none⟩)), (14, .int .u64 (nn : Nat)), (15, .int .i64 (ix : Nat)), (16, .pointer (some ⟨B3, ix, none⟩)), (17, .int .u64 (mm : Nat)), (18, .int .u64 (cy : Nat)), (19, .tuple #[.int .u64 (addE nn mm cy : Nat), .int .u64 (addC nn mm cy : Nat)]), (10, .tuple #[.int .u64 (addE nn mm cy : Nat), .int .u64 (addC nn mm cy : Nat)]), (20, .int .u64 (addE nn mm cy : Nat)), (21, .int .u64 (addC nn mm cy : Nat)), (22, .pointer (some ⟨B2, ix, none⟩)), (5, .int .u64 (addC nn mm cy : Nat))] (by show [11, 12, 13, 14, 15, 16, 17, 18, 19, 10, 20, 21, 22, 5].Nodup; decide) size defers (fun j hj => other j (fun k' hk => hj ?_)) (fun r hr => ?_)
    · refine ⟨?_⟩
      rw [hA]
      exact hR
    · have hm : ∀ t ∈ [5, 10, 11, 12, 13, 14, 15, 16, 17, 18, 19, 20, 21, 22], t ∈ [11, 12, 13, 14, 15, 16, 17, 18, 19, 10, 20, 21, 22, 5] := by decide
      exact hm j (dstPL hk)
    · simp only [List.mem_cons, List.not_mem_nil, or_false] at hr
      rcases hr with rfl | rfl | rfl | rfl | rfl | rfl | rfl | rfl | rfl | rfl | rfl | rfl | rfl | rfl
      · exact vals 0 11 rfl
      · exact vals 1 12 rfl
      · exact vals 2 13 rfl
      · exact vals 3 14 rfl
      · exact vals 4 15 rfl
      · exact vals 5 16 rfl
      · exact vals 6 17 rfl
      · exact vals 7 18 rfl
      · exact vals 8 19 rfl
      · exact vals 9 10 rfl
      · exact vals 10 20 rfl
      · exact vals 11 21 rfl
      · exact vals 12 22 rfl
      · exact vals 14 5 rfl
/-- A number's words. -/
def numV (N : Nat → Nat) : Value := .agg #[.int .u64 (N 0 : Nat), .int .u64 (N 1 : Nat), .int .u64 (N 2 : Nat), .int .u64 (N 3 : Nat), .int .u64 (N 4 : Nat)]
/-- Carries and words of a sum. -/
def cyV (N M : Nat → Nat) : Nat → Nat
  | 0 => 0
  | i + 1 => addC (N i) (M i) (cyV N M i)
def dgV (N M : Nat → Nat) (i : Nat) : Nat := addE (N i) (M i) (cyV N M i)
theorem cy_le {N M : Nat → Nat} (hN : ∀ i, N i < m64) (hM : ∀ i, M i < m64) : ∀ i, cyV N M i ≤ 1 := by
  intro i
  induction i with
  | zero => exact Nat.zero_le _
  | succ i ih =>
    show (N i + M i + cyV N M i) / m64 ≤ 1
    have h1 := hN i
    have h2 := hM i
    unfold m64 at *
    omega
structure PSt (w : World) (N M : Nat → Nat) (B2 B3 B4 i : Nat) (x : World) : Prop where
  q : Q w x
  c2 : ∀ j, j < 5 → x.cell? ⟨B2, j, none⟩ = some (.int .u64 ((if j < i then dgV N M j else N j : Nat) : Int))
  c3 : ∀ j, j < 5 → x.cell? ⟨B3, j, none⟩ = some (.int .u64 (M j : Nat))
  c4 : ∀ j, j < 5 → x.cell? ⟨B4, j, none⟩ = some (.int .u64 0)
  z2 : ∀ j, x.frozen? ⟨B2, j, none⟩ = false
  z4 : ∀ j, x.frozen? ⟨B4, j, none⟩ = false
theorem PSt.step {w x : World} {N M : Nat → Nat} {B2 B3 B4 i : Nat} (h : PSt w N M B2 B3 B4 i x) (hw : w.heap.size ≤ B2) (h3 : B3 ≠ B2) (h4 : B4 ≠ B2) (hi : i < 5) : PSt w N M B2 B3 B4 (i + 1) (x.drew.setCell ⟨B2, i, none⟩ (.int .u64 (addE (N i) (M i) (cyV N M i) : Nat))) := by
  refine ⟨h.q.drew.set hw _, fun j hj => ?_, fun j hj => ?_, fun j hj => ?_, fun j => ?_, fun j => ?_⟩
  · by_cases e : j = i
    · subst e
      have c := h.c2 j hj
      rw [if_pos (by omega)]
      simp [go_sem, c]
      rfl
    · have hne : (⟨B2, i, none⟩ : Addr) ≠ ⟨B2, j, none⟩ := fun e' => e (by injection e' with _ e'; exact e'.symm)
      rw [World.cell?_setCell_other _ _ _ _ hne]
      have c := h.c2 j hj
      have : (if j < i + 1 then dgV N M j else N j) = (if j < i then dgV N M j else N j) := by
        by_cases g : j < i
        · rw [if_pos g, if_pos (by omega)]
        · rw [if_neg g, if_neg (by omega)]
      rw [this]
      simpa using c
  · have hne : (⟨B2, i, none⟩ : Addr) ≠ ⟨B3, j, none⟩ := fun e' => h3 (by injection e' with e'; exact e'.symm)
    rw [World.cell?_setCell_other _ _ _ _ hne]
    simpa using h.c3 j hj
  · have hne : (⟨B2, i, none⟩ : Addr) ≠ ⟨B4, j, none⟩ := fun e' => h4 (by injection e' with e'; exact e'.symm)
    rw [World.cell?_setCell_other _ _ _ _ hne]
    simpa using h.c4 j hj
  · simpa using h.z2 j
  · simpa using h.z4 j
set_option maxHeartbeats 4000000 in
set_option maxRecDepth 100000 in
theorem nplus_any (N M : Nat → Nat) (hN : ∀ i, N i < m64) (hM : ∀ i, M i < m64) (w : World) : Calls Tryz.prog 72 #[numV N, numV M] w fun e w' => e = .returned (numV (dgV N M)) ∧ Q w w' := by
  have HCY : Hid (∀ i, cyV N M i ≤ 1) := cy_le hN hM
  clear hN hM
  unfold numV
  go_enter Tryz.func72, Tryz.ntmps72
  go_wp2_with fail
  obtain ⟨x0, hx0⟩ : ∃ x0, ((w.alloc (Obj.cells #[.int .u64 (N 0 : Nat), .int .u64 (N 1 : Nat), .int .u64 (N 2 : Nat), .int .u64 (N 3 : Nat), .int .u64 (N 4 : Nat)] 112)).alloc (Obj.cells #[.int .u64 (M 0 : Nat), .int .u64 (M 1 : Nat), .int .u64 (M 2 : Nat), .int .u64 (M 3 : Nat), .int .u64 (M 4 : Nat)] 112)).alloc (Obj.cells #[.int .u64 0, .int .u64 0, .int .u64 0, .int .u64 0, .int .u64 0] 112) = x0 := ⟨_, rfl⟩
  have P0 : PSt w N M w.heap.size (w.heap.size + 1) (w.heap.size + 1 + 1) 0 x0 := by
    rw [← hx0]
    refine ⟨(((Q.refl w).cells _ _).cells _ _).cells _ _, fun j hj => ?_, fun j hj => ?_, fun j hj => ?_, fun j => by simp [go_sem], fun j => by simp [go_sem]⟩
    · rw [if_neg (Nat.not_lt_zero _)]
      rcases j with _ | _ | _ | _ | _ | j
      · simp [go_sem]
      · simp [go_sem]
      · simp [go_sem]
      · simp [go_sem]
      · simp [go_sem]
      · omega
    · rcases j with _ | _ | _ | _ | _ | j
      · simp [go_sem]
      · simp [go_sem]
      · simp [go_sem]
      · simp [go_sem]
      · simp [go_sem]
      · omega
    · rcases j with _ | _ | _ | _ | _ | j
      · simp [go_sem]
      · simp [go_sem]
      · simp [go_sem]
      · simp [go_sem]
      · simp [go_sem]
      · omega
  have HP0 : Hid (PSt w N M w.heap.size (w.heap.size + 1) (w.heap.size + 1 + 1) 0 x0) := P0
  rw [hx0]
  clear hx0 P0
  go_loopg [5, 7] (5) (fun gh s5 s7 wr => ∃ i : Nat, s5 = .int .u64 (cyV N M i : Nat) ∧ s7 = .int .i64 (i : Int) ∧ i ≤ 5 ∧ gh = 5 - i ∧ Hid (PSt w N M w.heap.size (w.heap.size + 1) (w.heap.size + 1 + 1) i wr))
  case atStart => exact ⟨0, rfl, rfl, by omega, rfl, HP0.out⟩
  case round =>
    obtain ⟨i, rfl, rfl, hi, rfl, HP⟩ := hrel
    by_cases h5 : i < 5
    · go_wp2_with fail
      refine regionPL (nn := N i) (mm := M i) rfl rfl ⟨rfl, rfl, rfl, rfl, h5, HCY.out i, ?_, ?_, ?_⟩ ?_
      · have c := HP.out.c2 i h5
        rw [if_neg (Nat.lt_irrefl _)] at c
        simpa using c
      · simpa using HP.out.c3 i h5
      · simpa using HP.out.z2 i
      · simp only [putAll, Act.put]
        go_wp2_with fail
        go_roundg (5 - (i + 1))
        case measure => go_light; omega
        case rel =>
          go_light
          exact ⟨i + 1, rfl, by simp, by omega, rfl, HP.out.step (Nat.le_refl _) (by omega) (by omega) h5⟩
    · obtain rfl : i = 5 := by omega
      have HQ : Hid (Q w wr) := HP.out.q
      obtain ⟨a0, a1, a2, a3, a4⟩ : wr.cell? ⟨w.heap.size, 0, none⟩ = some (.int .u64 (dgV N M 0 : Nat)) ∧ wr.cell? ⟨w.heap.size, 1, none⟩ = some (.int .u64 (dgV N M 1 : Nat)) ∧ wr.cell? ⟨w.heap.size, 2, none⟩ = some (.int .u64 (dgV N M 2 : Nat)) ∧ wr.cell? ⟨w.heap.size, 3, none⟩ = some (.int .u64 (dgV N M 3 : Nat)) ∧ wr.cell? ⟨w.heap.size, 4, none⟩ = some (.int .u64 (dgV N M 4 : Nat)) :=
        ⟨HP.out.c2 0 (by decide), HP.out.c2 1 (by decide), HP.out.c2 2 (by decide), HP.out.c2 3 (by decide), HP.out.c2 4 (by decide)⟩
      have b0 := HP.out.c4 0 (by decide)
      have b1 := HP.out.c4 1 (by decide)
      have b2 := HP.out.c4 2 (by decide)
      have b3 := HP.out.c4 3 (by decide)
      have b4 := HP.out.c4 4 (by decide)
      have z0 := HP.out.z4 0
      have z1 := HP.out.z4 1
      have z2 := HP.out.z4 2
      have z3 := HP.out.z4 3
      have z4 := HP.out.z4 4
      clear HP HCY
      go_wp2_with fail
      refine bodyPost_ret (v := numV (dgV N M)) (by simp [results, Tryz.results72, go_sem, b0, b1, b2, b3, b4, numV]) rfl ⟨rfl, ?_⟩
      have hle : w.heap.size ≤ w.heap.size + 1 + 1 := by omega
      exact ((((HQ.out.set hle _).set hle _).set hle _).set hle _).set hle _
end Go.Proofs.YtieojgblamkgoaaGreatDoor
/- Numbers of five words: what they are worth; the negated one; how many digits. -/
namespace Go.Proofs.YtieojgblamkgoaaGreatDoor
open Go.RowKit
set_option linter.unusedVariables false
set_option linter.unusedSimpArgs false

/-- What so many words are worth. -/
def valW (N : Nat → Nat) : Nat → Nat
  | 0 => 0
  | i + 1 => valW N i + N i * m64 ^ i
theorem valW_lt {N : Nat → Nat} (h : ∀ i, N i < m64) : ∀ i, valW N i < m64 ^ i := by
  intro i
  induction i with
  | zero => exact Nat.one_pos
  | succ i ih =>
    show valW N i + N i * m64 ^ i < m64 ^ (i + 1)
    have h1 : (N i + 1) * m64 ^ i ≤ m64 * m64 ^ i := Nat.mul_le_mul_right _ (h i)
    rw [Nat.add_mul, Nat.one_mul] at h1
    rw [Nat.pow_succ, Nat.mul_comm (m64 ^ i)]
    omega
theorem dg_lt (N M : Nat → Nat) (i : Nat) : dgV N M i < m64 := Nat.mod_lt _ (by decide)
/-- A sum of numbers. -/
theorem sum_words (N M : Nat → Nat) : ∀ i, valW (dgV N M) i + cyV N M i * m64 ^ i = valW N i + valW M i := by
  intro i
  induction i with
  | zero => rfl
  | succ i ih =>
    show valW (dgV N M) i + dgV N M i * m64 ^ i + cyV N M (i + 1) * m64 ^ (i + 1) = valW N i + N i * m64 ^ i + (valW M i + M i * m64 ^ i)
    have h1 : dgV N M i + cyV N M (i + 1) * m64 = N i + M i + cyV N M i := by
      show (N i + M i + cyV N M i) % m64 + (N i + M i + cyV N M i) / m64 * m64 = _
      rw [Nat.mul_comm]; exact Nat.mod_add_div _ _
    have h2 : (dgV N M i + cyV N M (i + 1) * m64) * m64 ^ i = (N i + M i + cyV N M i) * m64 ^ i := by rw [h1]
    rw [Nat.add_mul, Nat.add_mul, Nat.add_mul, Nat.mul_assoc, ← Nat.pow_succ', Nat.succ_eq_add_one] at h2
    omega
/-- All ones less. -/
def notW (N : Nat → Nat) (i : Nat) : Nat := 18446744073709551615 - N i
def oneW (i : Nat) : Nat := if i = 0 then 1 else 0
def negW (N : Nat → Nat) : Nat → Nat := dgV (notW N) oneW
theorem not_lt64 (N : Nat → Nat) (i : Nat) : notW N i < m64 := by unfold notW m64; omega
theorem one_lt64 (i : Nat) : oneW i < m64 := by unfold oneW m64; split <;> omega
theorem not_words {N : Nat → Nat} (h : ∀ i, N i < m64) : ∀ i, valW (notW N) i + valW N i + 1 = m64 ^ i := by
  intro i
  induction i with
  | zero => rfl
  | succ i ih =>
    show valW (notW N) i + notW N i * m64 ^ i + (valW N i + N i * m64 ^ i) + 1 = m64 ^ (i + 1)
    have h1 : notW N i + N i + 1 = m64 := by have := h i; unfold notW m64 at *; omega
    have h2 : (notW N i + N i + 1) * m64 ^ i = m64 * m64 ^ i := by rw [h1]
    rw [Nat.add_mul, Nat.add_mul, Nat.one_mul, ← Nat.pow_succ', Nat.succ_eq_add_one] at h2
    omega
theorem one_words : ∀ i, 1 ≤ i → valW oneW i = 1 := by
  intro i
  induction i with
  | zero => intro h; omega
  | succ i ih =>
    intro _
    show valW oneW i + oneW i * m64 ^ i = 1
    rcases Nat.eq_zero_or_pos i with g | g
    · subst g; rfl
    · rw [ih g]
      unfold oneW
      rw [if_neg (by omega), Nat.zero_mul]
/-- The negated number. -/
theorem neg_words {N : Nat → Nat} (h : ∀ i, N i < m64) (h0 : valW N 5 ≠ 0) : valW (negW N) 5 + valW N 5 = m64 ^ 5 := by
  have h1 := sum_words (notW N) oneW 5
  have h2 := not_words h 5
  have h3 := one_words 5 (by decide)
  have h4 := cy_le (not_lt64 N) one_lt64 5
  have h5 := valW_lt (dg_lt (notW N) oneW) 5
  rw [h3] at h1
  show valW (dgV (notW N) oneW) 5 + valW N 5 = m64 ^ 5
  have h6 : cyV (notW N) oneW 5 = 0 ∨ cyV (notW N) oneW 5 = 1 := by omega
  generalize m64 ^ 5 = G at *
  rcases h6 with e | e
  · rw [e] at h1; omega
  · rw [e, Nat.one_mul] at h1; omega
set_option maxHeartbeats 2000000 in
set_option maxRecDepth 100000 in
theorem negative_any (N : Nat → Nat) (hN : ∀ i, N i < m64) (w : World) : Calls Tryz.prog 139 #[numV N] w fun e w' => e = .returned (.bool (decide (9223372036854775808 ≤ N 4))) ∧ Q w w' := by
  have h4 := hN 4
  unfold m64 at h4
  unfold numV
  by_cases h : 9223372036854775808 ≤ N 4
  · rw [decide_eq_true h]
    have e : ((N 4 : Nat) : Int) / 9223372036854775808 = 1 := by omega
    generalize N 4 = n at *
    clear hN h h4
    go_enter Tryz.func139, Tryz.ntmps139
    go_wp2_with fail
    go_ret
    exact ⟨rfl, (Q.refl w).cells _ _⟩
  · rw [decide_eq_false h]
    have e : ((N 4 : Nat) : Int) / 9223372036854775808 = 0 := by omega
    generalize N 4 = n at *
    clear hN h h4
    go_enter Tryz.func139, Tryz.ntmps139
    go_wp2_with fail
    go_ret
    exact ⟨rfl, (Q.refl w).cells _ _⟩
theorem xor_all {n : Nat} (h : n < 18446744073709551616) : 18446744073709551615 ^^^ n = 18446744073709551615 - n := by
  have h1 : (BitVec.allOnes 64 ^^^ BitVec.ofNat 64 n).toNat = (~~~(BitVec.ofNat 64 n)).toNat := congrArg BitVec.toNat (BitVec.allOnes_xor)
  rw [BitVec.toNat_xor, BitVec.toNat_allOnes, BitVec.toNat_not, BitVec.toNat_ofNat, Nat.mod_eq_of_lt h] at h1
  exact h1
theorem not_bits {n : Nat} (h : n < 18446744073709551616) : bits .xor .u64 IntKind.u64.max (n : Int) = ((18446744073709551615 - n : Nat) : Int) := by
  have e : bits .xor .u64 18446744073709551615 (n : Int) = ((18446744073709551615 ^^^ n : Nat) : Int) := by go_bits2
  rw [show IntKind.u64.max = 18446744073709551615 by decide, e, xor_all h]
/-- The words of a box while they are turned. -/
structure NSt (w : World) (N : Nat → Nat) (B1 B2 i : Nat) (x : World) : Prop where
  q : Q w x
  c1 : ∀ j, j < 5 → x.cell? ⟨B1, j, none⟩ = some (.int .u64 ((if j < i then notW N j else N j : Nat) : Int))
  c2 : ∀ j, j < 5 → x.cell? ⟨B2, j, none⟩ = some (.int .u64 0)
  z1 : ∀ j, x.frozen? ⟨B1, j, none⟩ = false
  z2 : ∀ j, x.frozen? ⟨B2, j, none⟩ = false
theorem NSt.step {w x : World} {N : Nat → Nat} {B1 B2 i : Nat} (h : NSt w N B1 B2 i x) (hw : w.heap.size ≤ B1) (h2 : B2 ≠ B1) (hi : i < 5) : NSt w N B1 B2 (i + 1) (x.setCell ⟨B1, i, none⟩ (.int .u64 (notW N i : Nat))) := by
  refine ⟨h.q.set hw _, fun j hj => ?_, fun j hj => ?_, fun j => ?_, fun j => ?_⟩
  · by_cases e : j = i
    · subst e
      have c := h.c1 j hj
      rw [if_pos (by omega)]
      simp [go_sem, c]
    · have hne : (⟨B1, i, none⟩ : Addr) ≠ ⟨B1, j, none⟩ := fun e' => e (by injection e' with _ e'; exact e'.symm)
      rw [World.cell?_setCell_other _ _ _ _ hne]
      have c := h.c1 j hj
      have : (if j < i + 1 then notW N j else N j) = (if j < i then notW N j else N j) := by
        by_cases g : j < i
        · rw [if_pos g, if_pos (by omega)]
        · rw [if_neg g, if_neg (by omega)]
      rw [this]
      exact c
  · have hne : (⟨B1, i, none⟩ : Addr) ≠ ⟨B2, j, none⟩ := fun e' => h2 (by injection e' with e'; exact e'.symm)
    rw [World.cell?_setCell_other _ _ _ _ hne]
    exact h.c2 j hj
  · rw [World.frozen?_setCell]; exact h.z1 j
  · rw [World.frozen?_setCell]; exact h.z2 j
set_option maxHeartbeats 4000000 in
set_option maxRecDepth 100000 in
theorem negated_any (N : Nat → Nat) (hN : ∀ i, N i < m64) (w : World) : Calls Tryz.prog 140 #[numV N] w fun e w' => e = .returned (numV (negW N)) ∧ Q w w' := by
  have HN : Hid (∀ i, N i < m64) := hN
  clear hN
  unfold numV
  go_enter Tryz.func140, Tryz.ntmps140
  go_wp2_with fail
  obtain ⟨x0, hx0⟩ : ∃ x0, (w.alloc (Obj.cells #[.int .u64 (N 0 : Nat), .int .u64 (N 1 : Nat), .int .u64 (N 2 : Nat), .int .u64 (N 3 : Nat), .int .u64 (N 4 : Nat)] 112)).alloc (Obj.cells #[.int .u64 0, .int .u64 0, .int .u64 0, .int .u64 0, .int .u64 0] 112) = x0 := ⟨_, rfl⟩
  have P0 : NSt w N w.heap.size (w.heap.size + 1) 0 x0 := by
    rw [← hx0]
    refine ⟨((Q.refl w).cells _ _).cells _ _, fun j hj => ?_, fun j hj => ?_, fun j => by simp [go_sem], fun j => by simp [go_sem]⟩
    · rw [if_neg (Nat.not_lt_zero _)]
      rcases j with _ | _ | _ | _ | _ | j
      · simp [go_sem]
      · simp [go_sem]
      · simp [go_sem]
      · simp [go_sem]
      · simp [go_sem]
      · omega
    · rcases j with _ | _ | _ | _ | _ | j
      · simp [go_sem]
      · simp [go_sem]
      · simp [go_sem]
      · simp [go_sem]
      · simp [go_sem]
      · omega
  have HP0 : Hid (NSt w N w.heap.size (w.heap.size + 1) 0 x0) := P0
  rw [hx0]
  clear hx0 P0
  go_loopg [4] (5) (fun gh s4 wr => ∃ i : Nat, s4 = .int .i64 (i : Int) ∧ i ≤ 5 ∧ gh = 5 - i ∧ Hid (NSt w N w.heap.size (w.heap.size + 1) i wr))
  case atStart => exact ⟨0, rfl, by omega, rfl, HP0.out⟩
  case round =>
    obtain ⟨i, rfl, hi, rfl, HP⟩ := hrel
    by_cases h5 : i < 5
    · have c := HP.out.c1 i h5
      rw [if_neg (Nat.lt_irrefl _)] at c
      have z := HP.out.z1 i
      have e := not_bits (HN.out i)
      have hlt : (i : Int) < 5 := by omega
      go_wp2_with fail
      go_roundg (5 - (i + 1))
      case measure => go_light; omega
      case rel =>
        go_light
        exact ⟨i + 1, by simp, by omega, rfl, HP.out.step (Nat.le_refl _) (by omega) h5⟩
    · obtain rfl : i = 5 := by omega
      have HQ : Hid (Q w wr) := HP.out.q
      obtain ⟨a0, a1, a2, a3, a4⟩ : wr.cell? ⟨w.heap.size, 0, none⟩ = some (.int .u64 (notW N 0 : Nat)) ∧ wr.cell? ⟨w.heap.size, 1, none⟩ = some (.int .u64 (notW N 1 : Nat)) ∧ wr.cell? ⟨w.heap.size, 2, none⟩ = some (.int .u64 (notW N 2 : Nat)) ∧ wr.cell? ⟨w.heap.size, 3, none⟩ = some (.int .u64 (notW N 3 : Nat)) ∧ wr.cell? ⟨w.heap.size, 4, none⟩ = some (.int .u64 (notW N 4 : Nat)) :=
        ⟨HP.out.c1 0 (by decide), HP.out.c1 1 (by decide), HP.out.c1 2 (by decide), HP.out.c1 3 (by decide), HP.out.c1 4 (by decide)⟩
      have b0 := HP.out.c2 0 (by decide)
      have b1 := HP.out.c2 1 (by decide)
      have b2 := HP.out.c2 2 (by decide)
      have b3 := HP.out.c2 3 (by decide)
      have b4 := HP.out.c2 4 (by decide)
      have HZ : Hid (∀ j, wr.frozen? ⟨w.heap.size + 1, j, none⟩ = false) := HP.out.z2
      clear HP
      go_wp2_with fail
      refine (nplus_any (notW N) oneW (not_lt64 N) one_lt64 _).mono ?_
      rintro e w1 ⟨rfl, q1⟩
      have c0 := q1.cell b0
      have c1 := q1.cell b1
      have c2 := q1.cell b2
      have c3 := q1.cell b3
      have c4 := q1.cell b4
      have z0 := (q1.2 ⟨w.heap.size + 1, 0, none⟩).trans (HZ.out 0)
      have z1 := (q1.2 ⟨w.heap.size + 1, 1, none⟩).trans (HZ.out 1)
      have z2 := (q1.2 ⟨w.heap.size + 1, 2, none⟩).trans (HZ.out 2)
      have z3 := (q1.2 ⟨w.heap.size + 1, 3, none⟩).trans (HZ.out 3)
      have z4 := (q1.2 ⟨w.heap.size + 1, 4, none⟩).trans (HZ.out 4)
      have HQ1 : Hid (Q w w1) := HQ.out.trans q1
      clear q1 a0 a1 a2 a3 a4 b0 b1 b2 b3 b4 HZ
      unfold numV
      go_wp2_with fail
      refine bodyPost_ret (v := numV (negW N)) (by simp [results, Tryz.results140, go_sem, c0, c1, c2, c3, c4, numV, negW]) rfl ⟨rfl, ?_⟩
      have hle : w.heap.size ≤ w.heap.size + 1 := by omega
      exact ((((HQ1.out.set hle _).set hle _).set hle _).set hle _).set hle _
end Go.Proofs.YtieojgblamkgoaaGreatDoor
