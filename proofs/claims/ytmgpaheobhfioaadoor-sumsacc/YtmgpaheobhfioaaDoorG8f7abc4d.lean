/- Numbers of five words: the regions of 'add'. -/
import Derived.Test.YtmgpaheobhfioaaDoorGc05b1e5d
import Derived.Shelf.Spec.BitsCarry
namespace Go.Proofs.YtmgpaheobhfioaaDoor
open Go.RowKit
set_option linter.unusedVariables false
set_option linter.unusedSimpArgs false

def subE (x y b : Nat) : Nat := (x + m64 - y - b) % m64
def subC (x y b : Nat) : Nat := if x < y + b then 1 else 0
theorem sub64_run (x y c : Nat) (hc : c ≤ 1) (w : World) : (callFunc 59 #[.int .u64 (x : Int), .int .u64 (y : Int), .int .u64 (c : Int)]).run Tryd.prog w = .ok (.value (.tuple #[.int .u64 (subE x y c : Nat), .int .u64 (subC x y c : Nat)])) w := by
  rw [run_callFunc_extern (e := sub64Entry) Tryd.func59 (by kernel_rfl) (by kernel_rfl) (by kernel_rfl) (by kernel_rfl)]
  have h := Go.Proofs.run_sub64 (P := Tryd.prog) x y c hc w
  rw [h]
  rfl
/-- What a step does: with carries, or with borrows. -/
def Steps (fk : Nat) (sE sC : Nat → Nat → Nat → Nat) : Prop := ∀ (x y c : Nat), c ≤ 1 → ∀ w : World, (callFunc fk #[.int .u64 (x : Int), .int .u64 (y : Int), .int .u64 (c : Int)]).run Tryd.prog w = .ok (.value (.tuple #[.int .u64 (sE x y c : Nat), .int .u64 (sC x y c : Nat)])) w
theorem steps_add : Steps 58 addE addC := fun x y c hc w => add64_run x y c hc w
theorem steps_sub : Steps 59 subE subC := fun x y c hc w => sub64_run x y c hc w
section
variable {P : Program} {ρ : Operand → Value} {x : World} {d : Option Tmp} {ty : TypeId} {ps : String} {af : Array Edge} {g : Option (Nat × Bool)}
theorem run_nck {j : Nat} {p : Addr} (h : ρ (.tmp j) = .pointer (some p)) : (execOp ρ { dst := d, op := .nilCheck (.tmp j), type := ty, pos := ps, after := af, guard := g }).run P x = .ok (.value (.pointer (some p))) x := by
  simp [execOp, h, go_sem]
theorem run_shl {j k n s : Nat} (h : ρ (.tmp j) = .int .u64 (n : Nat)) (h' : ρ (.tmp k) = .int .i64 (s : Nat)) (hs : s ≤ 64) : (execOp ρ { dst := d, op := .binOp .shl 48 (.tmp j) (.tmp k) 3, type := ty, pos := ps, after := af, guard := g }).run Tryd.prog x = .ok (.value (.int .u64 ((n * 2 ^ s % m64 : Nat) : Int))) x := by
  simp [execOp, h, h', go_sem, IntKind.wrap, IntKind.signed, IntKind.bits, m64, Nat.min_eq_left hs]
theorem run_shr {j k n s : Nat} (h : ρ (.tmp j) = .int .u64 (n : Nat)) (h' : ρ (.tmp k) = .int .i64 (s : Nat)) (hs : s ≤ 64) : (execOp ρ { dst := d, op := .binOp .shr 48 (.tmp j) (.tmp k) 3, type := ty, pos := ps, after := af, guard := g }).run Tryd.prog x = .ok (.value (.int .u64 ((n / 2 ^ s : Nat) : Int))) x := by
  simp [execOp, h, h', go_sem, IntKind.wrap, IntKind.signed, IntKind.bits, m64, Nat.min_eq_left hs]
theorem run_inc {j n : Nat} (hk : ρ (.const (.int .i64 1)) = .int .i64 1) (h : ρ (.tmp j) = .int .i64 (n : Nat)) (hn : n < 1000) : (execOp ρ { dst := d, op := .binOp .add 3 (.tmp j) (.const (.int .i64 1)) 3, type := ty, pos := ps, after := af, guard := g }).run Tryd.prog x = .ok (.value (.int .i64 ((n + 1 : Nat) : Int))) x := by
  have e : IntKind.i64.wrap ((n : Int) + 1) = ((n + 1 : Nat) : Int) := by rw [IntKind.wrap_i64]; omega
  have e2 := e
  simp [execOp, h, hk, go_sem, e]
  try (simp at e2; exact e2)
theorem run_less {k n : Nat} (hk : ρ (.const (.int .i64 64)) = .int .i64 64) (h : ρ (.tmp k) = .int .i64 (n : Nat)) (hn : n ≤ 64) : (execOp ρ { dst := d, op := .binOp .sub 3 (.const (.int .i64 64)) (.tmp k) 3, type := ty, pos := ps, after := af, guard := g }).run Tryd.prog x = .ok (.value (.int .i64 ((64 - n : Nat) : Int))) x := by
  have e : IntKind.i64.wrap (64 - (n : Int)) = ((64 - n : Nat) : Int) := by rw [IntKind.wrap_i64]; omega
  have e2 := e
  simp [execOp, h, hk, go_sem, e]
  try (simp at e2; exact e2)
end
def fnV (k : Nat) : Value := .func (.func k) #[] #[]
theorem run_step {a : Act} {x : World} {d : Option Tmp} {ty : TypeId} {ps : String} {af : Array Edge} {g : Option (Nat × Bool)} {p j k l : Nat} {n m c fk : Nat} {sE sC : Nat → Nat → Nat → Nat} (H : Steps fk sE sC) (hf : a.eval (.tmp p) = fnV fk) (h : a.eval (.tmp j) = .int .u64 (n : Nat)) (h' : a.eval (.tmp k) = .int .u64 (m : Nat)) (h'' : a.eval (.tmp l) = .int .u64 (c : Nat)) (hc : c ≤ 1) {at' : Array TypeId} : (execOp a.eval { dst := d, op := .call { callee := .value (.tmp p), args := #[.tmp j, .tmp k, .tmp l], argTypes := at' }, type := ty, pos := ps, after := af, guard := g }).run Tryd.prog x = .ok (.value (.tuple #[.int .u64 (sE n m c : Nat), .int .u64 (sC n m c : Nat)])) x := by
  have r := H n m c hc x
  simp only [execOp, resolve, hf, fnV]
  have e : (#[] ++ (#[Operand.tmp j, .tmp k, .tmp l].map a.eval) ++ #[] : Array Value) = #[.int .u64 (n : Nat), .int .u64 (m : Nat), .int .u64 (c : Nat)] := by simp [h, h', h'']
  rw [← e] at r
  exact r
theorem run_step0 {a : Act} {x : World} {d : Option Tmp} {ty : TypeId} {ps : String} {af : Array Edge} {g : Option (Nat × Bool)} {p j l : Nat} {n c fk : Nat} {sE sC : Nat → Nat → Nat → Nat} (H : Steps fk sE sC) (hf : a.eval (.tmp p) = fnV fk) (h : a.eval (.tmp j) = .int .u64 (n : Nat)) (h'' : a.eval (.tmp l) = .int .u64 (c : Nat)) (hc : c ≤ 1) {at' : Array TypeId} : (execOp a.eval { dst := d, op := .call { callee := .value (.tmp p), args := #[.tmp j, .const (.int .u64 0), .tmp l], argTypes := at' }, type := ty, pos := ps, after := af, guard := g }).run Tryd.prog x = .ok (.value (.tuple #[.int .u64 (sE n 0 c : Nat), .int .u64 (sC n 0 c : Nat)])) x := by
  have r := H n 0 c hc x
  simp only [execOp, resolve, hf, fnV]
  have e : (#[] ++ (#[Operand.tmp j, .const (.int .u64 0), .tmp l].map a.eval) ++ #[] : Array Value) = #[.int .u64 (n : Nat), .int .u64 ((0 : Nat) : Int), .int .u64 (c : Nat)] := by simp [h, h'']; rfl
  rw [← e] at r
  exact r
def oN1_0 : Oper := { dst := some 33, op := .move (.tmp 0), type := 94, pos := "number.go:36", after := #[], guard := none }
def oN1_1 : Oper := { dst := some 34, op := .move (.tmp 8), type := 3, pos := "number.go:36", after := #[], guard := none }
def oN1_2 : Oper := { dst := some 35, op := .move (.tmp 6), type := 95, pos := "number.go:36", after := #[], guard := none }
def oN1_3 : Oper := { dst := some 36, op := .move (.tmp 0), type := 94, pos := "number.go:36", after := #[], guard := none }
def oN1_4 : Oper := { dst := some 37, op := .move (.tmp 8), type := 3, pos := "number.go:36", after := #[], guard := none }
def oN1_5 : Oper := { dst := some 38, op := .nilCheck (.tmp 36), type := 0, pos := "number.go:36", after := #[⟨3, .data⟩], guard := none }
def oN1_6 : Oper := { dst := some 39, op := .indexAddr 66 (.tmp 38) (.tmp 37), type := 0, pos := "number.go:36", after := #[⟨5, .data⟩, ⟨4, .data⟩], guard := none }
def oN1_7 : Oper := { dst := some 40, op := .load 48 (.tmp 39), type := 48, pos := "number.go:36", after := #[⟨6, .data⟩], guard := none }
def oN1_8 : Oper := { dst := some 41, op := .move (.tmp 4), type := 48, pos := "number.go:36", after := #[], guard := none }
def oN1_9 : Oper := { dst := some 42, op := .move (.tmp 9), type := 3, pos := "number.go:36", after := #[], guard := none }
def oN1_10 : Oper := { dst := some 43, op := .binOp .shl 48 (.tmp 41) (.tmp 42) 3, type := 48, pos := "number.go:36", after := #[⟨8, .data⟩, ⟨9, .data⟩], guard := none }
def oN1_11 : Oper := { dst := some 44, op := .move (.tmp 10), type := 48, pos := "number.go:36", after := #[], guard := none }
def oN1_12 : Oper := { dst := some 45, op := .call { callee := .value (.tmp 35), args := #[.tmp 40, .tmp 43, .tmp 44], argTypes := #[48, 48, 48] }, type := 96, pos := "number.go:36", after := #[⟨2, .data⟩, ⟨7, .data⟩, ⟨10, .data⟩, ⟨11, .data⟩], guard := none }
def oN1_13 : Oper := { dst := some 32, op := .move (.tmp 45), type := 96, pos := "number.go:36", after := #[⟨12, .data⟩], guard := none }
def oN1_14 : Oper := { dst := some 46, op := .extract (.tmp 32) 0, type := 48, pos := "number.go:36", after := #[⟨13, .data⟩], guard := none }
def oN1_15 : Oper := { dst := some 47, op := .extract (.tmp 32) 1, type := 48, pos := "number.go:36", after := #[⟨13, .data⟩, ⟨18, .gcOnly .lateStores⟩], guard := none }
def oN1_16 : Oper := { dst := some 48, op := .nilCheck (.tmp 33), type := 0, pos := "number.go:36", after := #[⟨0, .data⟩], guard := none }
def oN1_17 : Oper := { dst := some 49, op := .indexAddr 66 (.tmp 48) (.tmp 34), type := 0, pos := "number.go:36", after := #[⟨16, .data⟩, ⟨1, .data⟩, ⟨0, .phase⟩, ⟨1, .phase⟩, ⟨2, .phase⟩, ⟨3, .phase⟩, ⟨4, .phase⟩, ⟨5, .phase⟩, ⟨6, .phase⟩, ⟨7, .phase⟩, ⟨8, .phase⟩, ⟨9, .phase⟩, ⟨10, .phase⟩, ⟨11, .phase⟩, ⟨12, .phase⟩, ⟨13, .phase⟩, ⟨14, .phase⟩, ⟨15, .textOnly .lateStores⟩], guard := none }
def oN1_18 : Oper := { dst := none, op := .store 48 (.tmp 49) (.tmp 46), type := 0, pos := "number.go:36", after := #[⟨17, .data⟩, ⟨14, .data⟩, ⟨12, .chain⟩, ⟨0, .phase⟩, ⟨1, .phase⟩, ⟨2, .phase⟩, ⟨3, .phase⟩, ⟨4, .phase⟩, ⟨5, .phase⟩, ⟨6, .phase⟩, ⟨7, .phase⟩, ⟨8, .phase⟩, ⟨9, .phase⟩, ⟨10, .phase⟩, ⟨11, .phase⟩, ⟨12, .phase⟩, ⟨13, .phase⟩, ⟨14, .phase⟩, ⟨15, .textOnly .lateStores⟩], guard := none }
def oN1_19 : Oper := { dst := some 10, op := .assign (.tmp 47), type := 48, pos := "number.go:36", after := #[⟨15, .data⟩, ⟨18, .chain⟩, ⟨0, .phase⟩, ⟨1, .phase⟩, ⟨2, .phase⟩, ⟨3, .phase⟩, ⟨4, .phase⟩, ⟨5, .phase⟩, ⟨6, .phase⟩, ⟨7, .phase⟩, ⟨8, .phase⟩, ⟨9, .phase⟩, ⟨10, .phase⟩, ⟨11, .phase⟩, ⟨12, .phase⟩, ⟨13, .phase⟩, ⟨14, .phase⟩, ⟨15, .phase⟩, ⟨16, .phase⟩, ⟨17, .phase⟩, ⟨18, .phase⟩], guard := none }
def opsN1 : List Oper := [oN1_0, oN1_1, oN1_2, oN1_3, oN1_4, oN1_5, oN1_6, oN1_7, oN1_8, oN1_9, oN1_10, oN1_11, oN1_12, oN1_13, oN1_14, oN1_15, oN1_16, oN1_17, oN1_18, oN1_19]
def vN1 (B ix nn cy sz sh fk : Nat) (sE sC : Nat → Nat → Nat → Nat) (i : Nat) : Value := ([.pointer (some ⟨B, 0, none⟩), .int .i64 (ix : Nat), fnV fk, .pointer (some ⟨B, 0, none⟩), .int .i64 (ix : Nat), .pointer (some ⟨B, 0, none⟩), .pointer (some ⟨B, ix, none⟩), .int .u64 (nn : Nat), .int .u64 (sz : Nat), .int .i64 (sh : Nat), .int .u64 ((sz * 2 ^ sh % m64 : Nat) : Int), .int .u64 (cy : Nat), .tuple #[.int .u64 (sE nn (sz * 2 ^ sh % m64) cy : Nat), .int .u64 (sC nn (sz * 2 ^ sh % m64) cy : Nat)], .tuple #[.int .u64 (sE nn (sz * 2 ^ sh % m64) cy : Nat), .int .u64 (sC nn (sz * 2 ^ sh % m64) cy : Nat)], .int .u64 (sE nn (sz * 2 ^ sh % m64) cy : Nat), .int .u64 (sC nn (sz * 2 ^ sh % m64) cy : Nat), .pointer (some ⟨B, 0, none⟩), .pointer (some ⟨B, ix, none⟩), undef, .int .u64 (sC nn (sz * 2 ^ sh % m64) cy : Nat)] : List Value).getD i undef
structure EnvN1 (a0 : Act) (w : World) (B ix nn cy sz sh fk : Nat) (sE sC : Nat → Nat → Nat → Nat) : Prop where
  h0 : a0.tmps[0]? = some (.pointer (some ⟨B, 0, none⟩))
  h8 : a0.tmps[8]? = some (.int .i64 (ix : Nat))
  h6 : a0.tmps[6]? = some (fnV fk)
  h10 : a0.tmps[10]? = some (.int .u64 (cy : Nat))
  hs : Steps fk sE sC
  hc : cy ≤ 1
  hi : ix < 5
  c : w.drew.cell? ⟨B, ix, none⟩ = some (.int .u64 (nn : Nat))
  z : w.drew.frozen? ⟨B, ix, none⟩ = false
  h4 : a0.tmps[4]? = some (.int .u64 (sz : Nat))
  h9 : a0.tmps[9]? = some (.int .i64 (sh : Nat))
  hsh : sh ≤ 64
theorem dstN1 {k j : Nat} (h : dstOf opsN1 k = some j) : j ∈ [10, 32, 33, 34, 35, 36, 37, 38, 39, 40, 41, 42, 43, 44, 45, 46, 47, 48, 49] := by
  rcases k with _ | _ | _ | _ | _ | _ | _ | _ | _ | _ | _ | _ | _ | _ | _ | _ | _ | _ | _ | _ | k
  · have e := Option.some.inj h; subst e; decide
  · have e := Option.some.inj h; subst e; decide
  · have e := Option.some.inj h; subst e; decide
  · have e := Option.some.inj h; subst e; decide
  · have e := Option.some.inj h; subst e; decide
  · have e := Option.some.inj h; subst e; decide
  · have e := Option.some.inj h; subst e; decide
  · have e := Option.some.inj h; subst e; decide
  · have e := Option.some.inj h; subst e; decide
  · have e := Option.some.inj h; subst e; decide
  · have e := Option.some.inj h; subst e; decide
  · have e := Option.some.inj h; subst e; decide
  · have e := Option.some.inj h; subst e; decide
  · have e := Option.some.inj h; subst e; decide
  · have e := Option.some.inj h; subst e; decide
  · have e := Option.some.inj h; subst e; decide
  · have e := Option.some.inj h; subst e; decide
  · have e := Option.some.inj h; subst e; decide
  · cases h
  · have e := Option.some.inj h; subst e; decide
  · cases h
theorem yN1_0 {a0 : Act} {w : World} {B ix nn cy sz sh fk : Nat} {sE sC : Nat → Nat → Nat → Nat} (E : EnvN1 a0 w B ix nn cy sz sh fk sE sC) {a : Act} {x : World} (hx : x = w.drew ∨ (x = w.drew.setCell ⟨B, ix, none⟩ (.int .u64 (sE nn (sz * 2 ^ sh % m64) cy : Nat)) ∧ waits opsN1 18 0 = false)) (oth : ∀ j, (∀ k, dstOf opsN1 k ≠ some j) → a.tmps[j]? = a0.tmps[j]?) (dep : ∀ e ∈ oN1_0.after, Region.binds .any e = true → e.on ≠ 18 → ∀ t, dstOf opsN1 e.on = some t → a.tmps[t]? = some (vN1 B ix nn cy sz sh fk sE sC e.on)) (fr : ∀ j t, waits opsN1 j 0 = true → dstOf opsN1 j = some t → a.tmps[t]? = a0.tmps[t]?) : (execOp a.eval oN1_0).run Tryd.prog x = .ok (.value (vN1 B ix nn cy sz sh fk sE sC 0)) x := by
  exact run_mv (tmp_eval ((oth 0 (fun k h => absurd (dstN1 h) (by decide))).trans E.h0))
theorem yN1_1 {a0 : Act} {w : World} {B ix nn cy sz sh fk : Nat} {sE sC : Nat → Nat → Nat → Nat} (E : EnvN1 a0 w B ix nn cy sz sh fk sE sC) {a : Act} {x : World} (hx : x = w.drew ∨ (x = w.drew.setCell ⟨B, ix, none⟩ (.int .u64 (sE nn (sz * 2 ^ sh % m64) cy : Nat)) ∧ waits opsN1 18 1 = false)) (oth : ∀ j, (∀ k, dstOf opsN1 k ≠ some j) → a.tmps[j]? = a0.tmps[j]?) (dep : ∀ e ∈ oN1_1.after, Region.binds .any e = true → e.on ≠ 18 → ∀ t, dstOf opsN1 e.on = some t → a.tmps[t]? = some (vN1 B ix nn cy sz sh fk sE sC e.on)) (fr : ∀ j t, waits opsN1 j 1 = true → dstOf opsN1 j = some t → a.tmps[t]? = a0.tmps[t]?) : (execOp a.eval oN1_1).run Tryd.prog x = .ok (.value (vN1 B ix nn cy sz sh fk sE sC 1)) x := by
  exact run_mv (tmp_eval ((oth 8 (fun k h => absurd (dstN1 h) (by decide))).trans E.h8))
theorem yN1_2 {a0 : Act} {w : World} {B ix nn cy sz sh fk : Nat} {sE sC : Nat → Nat → Nat → Nat} (E : EnvN1 a0 w B ix nn cy sz sh fk sE sC) {a : Act} {x : World} (hx : x = w.drew ∨ (x = w.drew.setCell ⟨B, ix, none⟩ (.int .u64 (sE nn (sz * 2 ^ sh % m64) cy : Nat)) ∧ waits opsN1 18 2 = false)) (oth : ∀ j, (∀ k, dstOf opsN1 k ≠ some j) → a.tmps[j]? = a0.tmps[j]?) (dep : ∀ e ∈ oN1_2.after, Region.binds .any e = true → e.on ≠ 18 → ∀ t, dstOf opsN1 e.on = some t → a.tmps[t]? = some (vN1 B ix nn cy sz sh fk sE sC e.on)) (fr : ∀ j t, waits opsN1 j 2 = true → dstOf opsN1 j = some t → a.tmps[t]? = a0.tmps[t]?) : (execOp a.eval oN1_2).run Tryd.prog x = .ok (.value (vN1 B ix nn cy sz sh fk sE sC 2)) x := by
  exact run_mv (tmp_eval ((oth 6 (fun k h => absurd (dstN1 h) (by decide))).trans E.h6))
theorem yN1_3 {a0 : Act} {w : World} {B ix nn cy sz sh fk : Nat} {sE sC : Nat → Nat → Nat → Nat} (E : EnvN1 a0 w B ix nn cy sz sh fk sE sC) {a : Act} {x : World} (hx : x = w.drew ∨ (x = w.drew.setCell ⟨B, ix, none⟩ (.int .u64 (sE nn (sz * 2 ^ sh % m64) cy : Nat)) ∧ waits opsN1 18 3 = false)) (oth : ∀ j, (∀ k, dstOf opsN1 k ≠ some j) → a.tmps[j]? = a0.tmps[j]?) (dep : ∀ e ∈ oN1_3.after, Region.binds .any e = true → e.on ≠ 18 → ∀ t, dstOf opsN1 e.on = some t → a.tmps[t]? = some (vN1 B ix nn cy sz sh fk sE sC e.on)) (fr : ∀ j t, waits opsN1 j 3 = true → dstOf opsN1 j = some t → a.tmps[t]? = a0.tmps[t]?) : (execOp a.eval oN1_3).run Tryd.prog x = .ok (.value (vN1 B ix nn cy sz sh fk sE sC 3)) x := by
  exact run_mv (tmp_eval ((oth 0 (fun k h => absurd (dstN1 h) (by decide))).trans E.h0))
theorem yN1_4 {a0 : Act} {w : World} {B ix nn cy sz sh fk : Nat} {sE sC : Nat → Nat → Nat → Nat} (E : EnvN1 a0 w B ix nn cy sz sh fk sE sC) {a : Act} {x : World} (hx : x = w.drew ∨ (x = w.drew.setCell ⟨B, ix, none⟩ (.int .u64 (sE nn (sz * 2 ^ sh % m64) cy : Nat)) ∧ waits opsN1 18 4 = false)) (oth : ∀ j, (∀ k, dstOf opsN1 k ≠ some j) → a.tmps[j]? = a0.tmps[j]?) (dep : ∀ e ∈ oN1_4.after, Region.binds .any e = true → e.on ≠ 18 → ∀ t, dstOf opsN1 e.on = some t → a.tmps[t]? = some (vN1 B ix nn cy sz sh fk sE sC e.on)) (fr : ∀ j t, waits opsN1 j 4 = true → dstOf opsN1 j = some t → a.tmps[t]? = a0.tmps[t]?) : (execOp a.eval oN1_4).run Tryd.prog x = .ok (.value (vN1 B ix nn cy sz sh fk sE sC 4)) x := by
  exact run_mv (tmp_eval ((oth 8 (fun k h => absurd (dstN1 h) (by decide))).trans E.h8))
theorem yN1_5 {a0 : Act} {w : World} {B ix nn cy sz sh fk : Nat} {sE sC : Nat → Nat → Nat → Nat} (E : EnvN1 a0 w B ix nn cy sz sh fk sE sC) {a : Act} {x : World} (hx : x = w.drew ∨ (x = w.drew.setCell ⟨B, ix, none⟩ (.int .u64 (sE nn (sz * 2 ^ sh % m64) cy : Nat)) ∧ waits opsN1 18 5 = false)) (oth : ∀ j, (∀ k, dstOf opsN1 k ≠ some j) → a.tmps[j]? = a0.tmps[j]?) (dep : ∀ e ∈ oN1_5.after, Region.binds .any e = true → e.on ≠ 18 → ∀ t, dstOf opsN1 e.on = some t → a.tmps[t]? = some (vN1 B ix nn cy sz sh fk sE sC e.on)) (fr : ∀ j t, waits opsN1 j 5 = true → dstOf opsN1 j = some t → a.tmps[t]? = a0.tmps[t]?) : (execOp a.eval oN1_5).run Tryd.prog x = .ok (.value (vN1 B ix nn cy sz sh fk sE sC 5)) x := by
  have t3 : a.tmps[36]? = some (.pointer (some ⟨B, 0, none⟩)) := dep ⟨3, .data⟩ (by simp [oN1_5]) rfl (by decide) 36 rfl
  exact run_nck (tmp_eval t3)
theorem yN1_6 {a0 : Act} {w : World} {B ix nn cy sz sh fk : Nat} {sE sC : Nat → Nat → Nat → Nat} (E : EnvN1 a0 w B ix nn cy sz sh fk sE sC) {a : Act} {x : World} (hx : x = w.drew ∨ (x = w.drew.setCell ⟨B, ix, none⟩ (.int .u64 (sE nn (sz * 2 ^ sh % m64) cy : Nat)) ∧ waits opsN1 18 6 = false)) (oth : ∀ j, (∀ k, dstOf opsN1 k ≠ some j) → a.tmps[j]? = a0.tmps[j]?) (dep : ∀ e ∈ oN1_6.after, Region.binds .any e = true → e.on ≠ 18 → ∀ t, dstOf opsN1 e.on = some t → a.tmps[t]? = some (vN1 B ix nn cy sz sh fk sE sC e.on)) (fr : ∀ j t, waits opsN1 j 6 = true → dstOf opsN1 j = some t → a.tmps[t]? = a0.tmps[t]?) : (execOp a.eval oN1_6).run Tryd.prog x = .ok (.value (vN1 B ix nn cy sz sh fk sE sC 6)) x := by
  have t5 : a.tmps[38]? = some (.pointer (some ⟨B, 0, none⟩)) := dep ⟨5, .data⟩ (by simp [oN1_6]) rfl (by decide) 38 rfl
  have t4 : a.tmps[37]? = some (.int .i64 (ix : Nat)) := dep ⟨4, .data⟩ (by simp [oN1_6]) rfl (by decide) 37 rfl
  exact run_word (tmp_eval t5) (tmp_eval t4) E.hi
theorem yN1_7 {a0 : Act} {w : World} {B ix nn cy sz sh fk : Nat} {sE sC : Nat → Nat → Nat → Nat} (E : EnvN1 a0 w B ix nn cy sz sh fk sE sC) {a : Act} {x : World} (hx : x = w.drew ∨ (x = w.drew.setCell ⟨B, ix, none⟩ (.int .u64 (sE nn (sz * 2 ^ sh % m64) cy : Nat)) ∧ waits opsN1 18 7 = false)) (oth : ∀ j, (∀ k, dstOf opsN1 k ≠ some j) → a.tmps[j]? = a0.tmps[j]?) (dep : ∀ e ∈ oN1_7.after, Region.binds .any e = true → e.on ≠ 18 → ∀ t, dstOf opsN1 e.on = some t → a.tmps[t]? = some (vN1 B ix nn cy sz sh fk sE sC e.on)) (fr : ∀ j t, waits opsN1 j 7 = true → dstOf opsN1 j = some t → a.tmps[t]? = a0.tmps[t]?) : (execOp a.eval oN1_7).run Tryd.prog x = .ok (.value (vN1 B ix nn cy sz sh fk sE sC 7)) x := by
  have t6 : a.tmps[39]? = some (.pointer (some ⟨B, ix, none⟩)) := dep ⟨6, .data⟩ (by simp [oN1_7]) rfl (by decide) 39 rfl
  rcases hx with rfl | ⟨_, hx⟩
  · exact run_u64 (tmp_eval t6) E.c
  · exact absurd hx (by decide +kernel)
theorem yN1_8 {a0 : Act} {w : World} {B ix nn cy sz sh fk : Nat} {sE sC : Nat → Nat → Nat → Nat} (E : EnvN1 a0 w B ix nn cy sz sh fk sE sC) {a : Act} {x : World} (hx : x = w.drew ∨ (x = w.drew.setCell ⟨B, ix, none⟩ (.int .u64 (sE nn (sz * 2 ^ sh % m64) cy : Nat)) ∧ waits opsN1 18 8 = false)) (oth : ∀ j, (∀ k, dstOf opsN1 k ≠ some j) → a.tmps[j]? = a0.tmps[j]?) (dep : ∀ e ∈ oN1_8.after, Region.binds .any e = true → e.on ≠ 18 → ∀ t, dstOf opsN1 e.on = some t → a.tmps[t]? = some (vN1 B ix nn cy sz sh fk sE sC e.on)) (fr : ∀ j t, waits opsN1 j 8 = true → dstOf opsN1 j = some t → a.tmps[t]? = a0.tmps[t]?) : (execOp a.eval oN1_8).run Tryd.prog x = .ok (.value (vN1 B ix nn cy sz sh fk sE sC 8)) x := by
  exact run_mv (tmp_eval ((oth 4 (fun k h => absurd (dstN1 h) (by decide))).trans E.h4))
theorem yN1_9 {a0 : Act} {w : World} {B ix nn cy sz sh fk : Nat} {sE sC : Nat → Nat → Nat → Nat} (E : EnvN1 a0 w B ix nn cy sz sh fk sE sC) {a : Act} {x : World} (hx : x = w.drew ∨ (x = w.drew.setCell ⟨B, ix, none⟩ (.int .u64 (sE nn (sz * 2 ^ sh % m64) cy : Nat)) ∧ waits opsN1 18 9 = false)) (oth : ∀ j, (∀ k, dstOf opsN1 k ≠ some j) → a.tmps[j]? = a0.tmps[j]?) (dep : ∀ e ∈ oN1_9.after, Region.binds .any e = true → e.on ≠ 18 → ∀ t, dstOf opsN1 e.on = some t → a.tmps[t]? = some (vN1 B ix nn cy sz sh fk sE sC e.on)) (fr : ∀ j t, waits opsN1 j 9 = true → dstOf opsN1 j = some t → a.tmps[t]? = a0.tmps[t]?) : (execOp a.eval oN1_9).run Tryd.prog x = .ok (.value (vN1 B ix nn cy sz sh fk sE sC 9)) x := by
  exact run_mv (tmp_eval ((oth 9 (fun k h => absurd (dstN1 h) (by decide))).trans E.h9))
theorem yN1_10 {a0 : Act} {w : World} {B ix nn cy sz sh fk : Nat} {sE sC : Nat → Nat → Nat → Nat} (E : EnvN1 a0 w B ix nn cy sz sh fk sE sC) {a : Act} {x : World} (hx : x = w.drew ∨ (x = w.drew.setCell ⟨B, ix, none⟩ (.int .u64 (sE nn (sz * 2 ^ sh % m64) cy : Nat)) ∧ waits opsN1 18 10 = false)) (oth : ∀ j, (∀ k, dstOf opsN1 k ≠ some j) → a.tmps[j]? = a0.tmps[j]?) (dep : ∀ e ∈ oN1_10.after, Region.binds .any e = true → e.on ≠ 18 → ∀ t, dstOf opsN1 e.on = some t → a.tmps[t]? = some (vN1 B ix nn cy sz sh fk sE sC e.on)) (fr : ∀ j t, waits opsN1 j 10 = true → dstOf opsN1 j = some t → a.tmps[t]? = a0.tmps[t]?) : (execOp a.eval oN1_10).run Tryd.prog x = .ok (.value (vN1 B ix nn cy sz sh fk sE sC 10)) x := by
  have t8 : a.tmps[41]? = some (.int .u64 (sz : Nat)) := dep ⟨8, .data⟩ (by simp [oN1_10]) rfl (by decide) 41 rfl
  have t9 : a.tmps[42]? = some (.int .i64 (sh : Nat)) := dep ⟨9, .data⟩ (by simp [oN1_10]) rfl (by decide) 42 rfl
  exact run_shl (tmp_eval t8) (tmp_eval t9) E.hsh
theorem yN1_11 {a0 : Act} {w : World} {B ix nn cy sz sh fk : Nat} {sE sC : Nat → Nat → Nat → Nat} (E : EnvN1 a0 w B ix nn cy sz sh fk sE sC) {a : Act} {x : World} (hx : x = w.drew ∨ (x = w.drew.setCell ⟨B, ix, none⟩ (.int .u64 (sE nn (sz * 2 ^ sh % m64) cy : Nat)) ∧ waits opsN1 18 11 = false)) (oth : ∀ j, (∀ k, dstOf opsN1 k ≠ some j) → a.tmps[j]? = a0.tmps[j]?) (dep : ∀ e ∈ oN1_11.after, Region.binds .any e = true → e.on ≠ 18 → ∀ t, dstOf opsN1 e.on = some t → a.tmps[t]? = some (vN1 B ix nn cy sz sh fk sE sC e.on)) (fr : ∀ j t, waits opsN1 j 11 = true → dstOf opsN1 j = some t → a.tmps[t]? = a0.tmps[t]?) : (execOp a.eval oN1_11).run Tryd.prog x = .ok (.value (vN1 B ix nn cy sz sh fk sE sC 11)) x := by
  exact run_mv (tmp_eval ((fr 19 10 (by decide +kernel) rfl).trans E.h10))
theorem yN1_12 {a0 : Act} {w : World} {B ix nn cy sz sh fk : Nat} {sE sC : Nat → Nat → Nat → Nat} (E : EnvN1 a0 w B ix nn cy sz sh fk sE sC) {a : Act} {x : World} (hx : x = w.drew ∨ (x = w.drew.setCell ⟨B, ix, none⟩ (.int .u64 (sE nn (sz * 2 ^ sh % m64) cy : Nat)) ∧ waits opsN1 18 12 = false)) (oth : ∀ j, (∀ k, dstOf opsN1 k ≠ some j) → a.tmps[j]? = a0.tmps[j]?) (dep : ∀ e ∈ oN1_12.after, Region.binds .any e = true → e.on ≠ 18 → ∀ t, dstOf opsN1 e.on = some t → a.tmps[t]? = some (vN1 B ix nn cy sz sh fk sE sC e.on)) (fr : ∀ j t, waits opsN1 j 12 = true → dstOf opsN1 j = some t → a.tmps[t]? = a0.tmps[t]?) : (execOp a.eval oN1_12).run Tryd.prog x = .ok (.value (vN1 B ix nn cy sz sh fk sE sC 12)) x := by
  have t2 : a.tmps[35]? = some (fnV fk) := dep ⟨2, .data⟩ (by simp [oN1_12]) rfl (by decide) 35 rfl
  have t7 : a.tmps[40]? = some (.int .u64 (nn : Nat)) := dep ⟨7, .data⟩ (by simp [oN1_12]) rfl (by decide) 40 rfl
  have t10 : a.tmps[43]? = some (.int .u64 ((sz * 2 ^ sh % m64 : Nat) : Int)) := dep ⟨10, .data⟩ (by simp [oN1_12]) rfl (by decide) 43 rfl
  have t11 : a.tmps[44]? = some (.int .u64 (cy : Nat)) := dep ⟨11, .data⟩ (by simp [oN1_12]) rfl (by decide) 44 rfl
  exact run_step E.hs (tmp_eval t2) (tmp_eval t7) (tmp_eval t10) (tmp_eval t11) E.hc
theorem yN1_13 {a0 : Act} {w : World} {B ix nn cy sz sh fk : Nat} {sE sC : Nat → Nat → Nat → Nat} (E : EnvN1 a0 w B ix nn cy sz sh fk sE sC) {a : Act} {x : World} (hx : x = w.drew ∨ (x = w.drew.setCell ⟨B, ix, none⟩ (.int .u64 (sE nn (sz * 2 ^ sh % m64) cy : Nat)) ∧ waits opsN1 18 13 = false)) (oth : ∀ j, (∀ k, dstOf opsN1 k ≠ some j) → a.tmps[j]? = a0.tmps[j]?) (dep : ∀ e ∈ oN1_13.after, Region.binds .any e = true → e.on ≠ 18 → ∀ t, dstOf opsN1 e.on = some t → a.tmps[t]? = some (vN1 B ix nn cy sz sh fk sE sC e.on)) (fr : ∀ j t, waits opsN1 j 13 = true → dstOf opsN1 j = some t → a.tmps[t]? = a0.tmps[t]?) : (execOp a.eval oN1_13).run Tryd.prog x = .ok (.value (vN1 B ix nn cy sz sh fk sE sC 13)) x := by
  have t12 : a.tmps[45]? = some (.tuple #[.int .u64 (sE nn (sz * 2 ^ sh % m64) cy : Nat), .int .u64 (sC nn (sz * 2 ^ sh % m64) cy : Nat)]) := dep ⟨12, .data⟩ (by simp [oN1_13]) rfl (by decide) 45 rfl
  exact run_mv (tmp_eval t12)
theorem yN1_14 {a0 : Act} {w : World} {B ix nn cy sz sh fk : Nat} {sE sC : Nat → Nat → Nat → Nat} (E : EnvN1 a0 w B ix nn cy sz sh fk sE sC) {a : Act} {x : World} (hx : x = w.drew ∨ (x = w.drew.setCell ⟨B, ix, none⟩ (.int .u64 (sE nn (sz * 2 ^ sh % m64) cy : Nat)) ∧ waits opsN1 18 14 = false)) (oth : ∀ j, (∀ k, dstOf opsN1 k ≠ some j) → a.tmps[j]? = a0.tmps[j]?) (dep : ∀ e ∈ oN1_14.after, Region.binds .any e = true → e.on ≠ 18 → ∀ t, dstOf opsN1 e.on = some t → a.tmps[t]? = some (vN1 B ix nn cy sz sh fk sE sC e.on)) (fr : ∀ j t, waits opsN1 j 14 = true → dstOf opsN1 j = some t → a.tmps[t]? = a0.tmps[t]?) : (execOp a.eval oN1_14).run Tryd.prog x = .ok (.value (vN1 B ix nn cy sz sh fk sE sC 14)) x := by
  have t13 : a.tmps[32]? = some (.tuple #[.int .u64 (sE nn (sz * 2 ^ sh % m64) cy : Nat), .int .u64 (sC nn (sz * 2 ^ sh % m64) cy : Nat)]) := dep ⟨13, .data⟩ (by simp [oN1_14]) rfl (by decide) 32 rfl
  exact run_ex0 (tmp_eval t13)
theorem yN1_15 {a0 : Act} {w : World} {B ix nn cy sz sh fk : Nat} {sE sC : Nat → Nat → Nat → Nat} (E : EnvN1 a0 w B ix nn cy sz sh fk sE sC) {a : Act} {x : World} (hx : x = w.drew ∨ (x = w.drew.setCell ⟨B, ix, none⟩ (.int .u64 (sE nn (sz * 2 ^ sh % m64) cy : Nat)) ∧ waits opsN1 18 15 = false)) (oth : ∀ j, (∀ k, dstOf opsN1 k ≠ some j) → a.tmps[j]? = a0.tmps[j]?) (dep : ∀ e ∈ oN1_15.after, Region.binds .any e = true → e.on ≠ 18 → ∀ t, dstOf opsN1 e.on = some t → a.tmps[t]? = some (vN1 B ix nn cy sz sh fk sE sC e.on)) (fr : ∀ j t, waits opsN1 j 15 = true → dstOf opsN1 j = some t → a.tmps[t]? = a0.tmps[t]?) : (execOp a.eval oN1_15).run Tryd.prog x = .ok (.value (vN1 B ix nn cy sz sh fk sE sC 15)) x := by
  have t13 : a.tmps[32]? = some (.tuple #[.int .u64 (sE nn (sz * 2 ^ sh % m64) cy : Nat), .int .u64 (sC nn (sz * 2 ^ sh % m64) cy : Nat)]) := dep ⟨13, .data⟩ (by simp [oN1_15]) rfl (by decide) 32 rfl
  exact run_ex1 (tmp_eval t13)
theorem yN1_16 {a0 : Act} {w : World} {B ix nn cy sz sh fk : Nat} {sE sC : Nat → Nat → Nat → Nat} (E : EnvN1 a0 w B ix nn cy sz sh fk sE sC) {a : Act} {x : World} (hx : x = w.drew ∨ (x = w.drew.setCell ⟨B, ix, none⟩ (.int .u64 (sE nn (sz * 2 ^ sh % m64) cy : Nat)) ∧ waits opsN1 18 16 = false)) (oth : ∀ j, (∀ k, dstOf opsN1 k ≠ some j) → a.tmps[j]? = a0.tmps[j]?) (dep : ∀ e ∈ oN1_16.after, Region.binds .any e = true → e.on ≠ 18 → ∀ t, dstOf opsN1 e.on = some t → a.tmps[t]? = some (vN1 B ix nn cy sz sh fk sE sC e.on)) (fr : ∀ j t, waits opsN1 j 16 = true → dstOf opsN1 j = some t → a.tmps[t]? = a0.tmps[t]?) : (execOp a.eval oN1_16).run Tryd.prog x = .ok (.value (vN1 B ix nn cy sz sh fk sE sC 16)) x := by
  have t0 : a.tmps[33]? = some (.pointer (some ⟨B, 0, none⟩)) := dep ⟨0, .data⟩ (by simp [oN1_16]) rfl (by decide) 33 rfl
  exact run_nck (tmp_eval t0)
theorem yN1_17 {a0 : Act} {w : World} {B ix nn cy sz sh fk : Nat} {sE sC : Nat → Nat → Nat → Nat} (E : EnvN1 a0 w B ix nn cy sz sh fk sE sC) {a : Act} {x : World} (hx : x = w.drew ∨ (x = w.drew.setCell ⟨B, ix, none⟩ (.int .u64 (sE nn (sz * 2 ^ sh % m64) cy : Nat)) ∧ waits opsN1 18 17 = false)) (oth : ∀ j, (∀ k, dstOf opsN1 k ≠ some j) → a.tmps[j]? = a0.tmps[j]?) (dep : ∀ e ∈ oN1_17.after, Region.binds .any e = true → e.on ≠ 18 → ∀ t, dstOf opsN1 e.on = some t → a.tmps[t]? = some (vN1 B ix nn cy sz sh fk sE sC e.on)) (fr : ∀ j t, waits opsN1 j 17 = true → dstOf opsN1 j = some t → a.tmps[t]? = a0.tmps[t]?) : (execOp a.eval oN1_17).run Tryd.prog x = .ok (.value (vN1 B ix nn cy sz sh fk sE sC 17)) x := by
  have t16 : a.tmps[48]? = some (.pointer (some ⟨B, 0, none⟩)) := dep ⟨16, .data⟩ (by simp [oN1_17]) rfl (by decide) 48 rfl
  have t1 : a.tmps[34]? = some (.int .i64 (ix : Nat)) := dep ⟨1, .data⟩ (by simp [oN1_17]) rfl (by decide) 34 rfl
  exact run_word (tmp_eval t16) (tmp_eval t1) E.hi
theorem yN1_18 {a0 : Act} {w : World} {B ix nn cy sz sh fk : Nat} {sE sC : Nat → Nat → Nat → Nat} (E : EnvN1 a0 w B ix nn cy sz sh fk sE sC) {a : Act} (oth : ∀ j, (∀ k, dstOf opsN1 k ≠ some j) → a.tmps[j]? = a0.tmps[j]?) (dep : ∀ e ∈ oN1_18.after, Region.binds .any e = true → e.on ≠ 18 → ∀ t, dstOf opsN1 e.on = some t → a.tmps[t]? = some (vN1 B ix nn cy sz sh fk sE sC e.on)) : (execOp a.eval oN1_18).run Tryd.prog w.drew = .ok .skip (w.drew.setCell ⟨B, ix, none⟩ (.int .u64 (sE nn (sz * 2 ^ sh % m64) cy : Nat))) := by
  have t17 : a.tmps[49]? = some (.pointer (some ⟨B, ix, none⟩)) := dep ⟨17, .data⟩ (by simp [oN1_18]) rfl (by decide) 49 rfl
  have t14 : a.tmps[46]? = some (.int .u64 (sE nn (sz * 2 ^ sh % m64) cy : Nat)) := dep ⟨14, .data⟩ (by simp [oN1_18]) rfl (by decide) 46 rfl
  exact run_put (tmp_eval t17) (tmp_eval t14) E.c E.z
theorem yN1_19 {a0 : Act} {w : World} {B ix nn cy sz sh fk : Nat} {sE sC : Nat → Nat → Nat → Nat} (E : EnvN1 a0 w B ix nn cy sz sh fk sE sC) {a : Act} {x : World} (hx : x = w.drew ∨ (x = w.drew.setCell ⟨B, ix, none⟩ (.int .u64 (sE nn (sz * 2 ^ sh % m64) cy : Nat)) ∧ waits opsN1 18 19 = false)) (oth : ∀ j, (∀ k, dstOf opsN1 k ≠ some j) → a.tmps[j]? = a0.tmps[j]?) (dep : ∀ e ∈ oN1_19.after, Region.binds .any e = true → e.on ≠ 18 → ∀ t, dstOf opsN1 e.on = some t → a.tmps[t]? = some (vN1 B ix nn cy sz sh fk sE sC e.on)) (fr : ∀ j t, waits opsN1 j 19 = true → dstOf opsN1 j = some t → a.tmps[t]? = a0.tmps[t]?) : (execOp a.eval oN1_19).run Tryd.prog x = .ok (.value (vN1 B ix nn cy sz sh fk sE sC 19)) x := by
  have t15 : a.tmps[47]? = some (.int .u64 (sC nn (sz * 2 ^ sh % m64) cy : Nat)) := dep ⟨15, .data⟩ (by simp [oN1_19]) rfl (by decide) 47 rfl
  exact run_as (tmp_eval t15)
theorem hopN1 {a0 : Act} {w : World} {B ix nn cy sz sh fk : Nat} {sE sC : Nat → Nat → Nat → Nat} (E : EnvN1 a0 w B ix nn cy sz sh fk sE sC) : ∀ (i : Nat) (o : Oper) (a : Act) (x : World), opsN1[i]? = some o → i ≠ 18 → (x = w.drew ∨ (x = w.drew.setCell ⟨B, ix, none⟩ (.int .u64 (sE nn (sz * 2 ^ sh % m64) cy : Nat)) ∧ waits opsN1 18 i = false)) → (∀ j, (∀ k, dstOf opsN1 k ≠ some j) → a.tmps[j]? = a0.tmps[j]?) → (∀ e ∈ o.after, Region.binds .any e = true → e.on ≠ 18 → ∀ t, dstOf opsN1 e.on = some t → a.tmps[t]? = some (vN1 B ix nn cy sz sh fk sE sC e.on)) → (∀ j t, waits opsN1 j i = true → dstOf opsN1 j = some t → a.tmps[t]? = a0.tmps[t]?) → ∃ t, o.dst = some t ∧ (execOp a.eval o).run Tryd.prog x = .ok (.value (vN1 B ix nn cy sz sh fk sE sC i)) x
  | 0, o, a, x, ho, hi, hx, oth, dep, fr => by
    have e1 : oN1_0 = o := Option.some.inj ho
    subst e1
    exact ⟨33, rfl, yN1_0 E hx oth dep fr⟩
  | 1, o, a, x, ho, hi, hx, oth, dep, fr => by
    have e1 : oN1_1 = o := Option.some.inj ho
    subst e1
    exact ⟨34, rfl, yN1_1 E hx oth dep fr⟩
  | 2, o, a, x, ho, hi, hx, oth, dep, fr => by
    have e1 : oN1_2 = o := Option.some.inj ho
    subst e1
    exact ⟨35, rfl, yN1_2 E hx oth dep fr⟩
  | 3, o, a, x, ho, hi, hx, oth, dep, fr => by
    have e1 : oN1_3 = o := Option.some.inj ho
    subst e1
    exact ⟨36, rfl, yN1_3 E hx oth dep fr⟩
  | 4, o, a, x, ho, hi, hx, oth, dep, fr => by
    have e1 : oN1_4 = o := Option.some.inj ho
    subst e1
    exact ⟨37, rfl, yN1_4 E hx oth dep fr⟩
  | 5, o, a, x, ho, hi, hx, oth, dep, fr => by
    have e1 : oN1_5 = o := Option.some.inj ho
    subst e1
    exact ⟨38, rfl, yN1_5 E hx oth dep fr⟩
  | 6, o, a, x, ho, hi, hx, oth, dep, fr => by
    have e1 : oN1_6 = o := Option.some.inj ho
    subst e1
    exact ⟨39, rfl, yN1_6 E hx oth dep fr⟩
  | 7, o, a, x, ho, hi, hx, oth, dep, fr => by
    have e1 : oN1_7 = o := Option.some.inj ho
    subst e1
    exact ⟨40, rfl, yN1_7 E hx oth dep fr⟩
  | 8, o, a, x, ho, hi, hx, oth, dep, fr => by
    have e1 : oN1_8 = o := Option.some.inj ho
    subst e1
    exact ⟨41, rfl, yN1_8 E hx oth dep fr⟩
  | 9, o, a, x, ho, hi, hx, oth, dep, fr => by
    have e1 : oN1_9 = o := Option.some.inj ho
    subst e1
    exact ⟨42, rfl, yN1_9 E hx oth dep fr⟩
  | 10, o, a, x, ho, hi, hx, oth, dep, fr => by
    have e1 : oN1_10 = o := Option.some.inj ho
    subst e1
    exact ⟨43, rfl, yN1_10 E hx oth dep fr⟩
  | 11, o, a, x, ho, hi, hx, oth, dep, fr => by
    have e1 : oN1_11 = o := Option.some.inj ho
    subst e1
    exact ⟨44, rfl, yN1_11 E hx oth dep fr⟩
  | 12, o, a, x, ho, hi, hx, oth, dep, fr => by
    have e1 : oN1_12 = o := Option.some.inj ho
    subst e1
    exact ⟨45, rfl, yN1_12 E hx oth dep fr⟩
  | 13, o, a, x, ho, hi, hx, oth, dep, fr => by
    have e1 : oN1_13 = o := Option.some.inj ho
    subst e1
    exact ⟨32, rfl, yN1_13 E hx oth dep fr⟩
  | 14, o, a, x, ho, hi, hx, oth, dep, fr => by
    have e1 : oN1_14 = o := Option.some.inj ho
    subst e1
    exact ⟨46, rfl, yN1_14 E hx oth dep fr⟩
  | 15, o, a, x, ho, hi, hx, oth, dep, fr => by
    have e1 : oN1_15 = o := Option.some.inj ho
    subst e1
    exact ⟨47, rfl, yN1_15 E hx oth dep fr⟩
  | 16, o, a, x, ho, hi, hx, oth, dep, fr => by
    have e1 : oN1_16 = o := Option.some.inj ho
    subst e1
    exact ⟨48, rfl, yN1_16 E hx oth dep fr⟩
  | 17, o, a, x, ho, hi, hx, oth, dep, fr => by
    have e1 : oN1_17 = o := Option.some.inj ho
    subst e1
    exact ⟨49, rfl, yN1_17 E hx oth dep fr⟩
  | 18, o, a, x, ho, hi, hx, oth, dep, fr => absurd rfl hi
  | 19, o, a, x, ho, hi, hx, oth, dep, fr => by
    have e1 : oN1_19 = o := Option.some.inj ho
    subst e1
    exact ⟨10, rfl, yN1_19 E hx oth dep fr⟩
  | i + 20, o, a, x, ho, hi, hx, oth, dep, fr => by cases ho
theorem gdN1 : ∀ (i : Nat) (o : Oper), opsN1[i]? = some o → o.guard = none := by
  intro i o ho
  rcases i with _ | _ | _ | _ | _ | _ | _ | _ | _ | _ | _ | _ | _ | _ | _ | _ | _ | _ | _ | _ | i
  · have e := Option.some.inj ho; subst e; rfl
  · have e := Option.some.inj ho; subst e; rfl
  · have e := Option.some.inj ho; subst e; rfl
  · have e := Option.some.inj ho; subst e; rfl
  · have e := Option.some.inj ho; subst e; rfl
  · have e := Option.some.inj ho; subst e; rfl
  · have e := Option.some.inj ho; subst e; rfl
  · have e := Option.some.inj ho; subst e; rfl
  · have e := Option.some.inj ho; subst e; rfl
  · have e := Option.some.inj ho; subst e; rfl
  · have e := Option.some.inj ho; subst e; rfl
  · have e := Option.some.inj ho; subst e; rfl
  · have e := Option.some.inj ho; subst e; rfl
  · have e := Option.some.inj ho; subst e; rfl
  · have e := Option.some.inj ho; subst e; rfl
  · have e := Option.some.inj ho; subst e; rfl
  · have e := Option.some.inj ho; subst e; rfl
  · have e := Option.some.inj ho; subst e; rfl
  · have e := Option.some.inj ho; subst e; rfl
  · have e := Option.some.inj ho; subst e; rfl
  · cases ho
theorem regionN1 {id : Nat} {l : List Oper} {R : Exit → Act → World → Prop} {a0 : Act} {w : World} {B ix nn cy sz sh fk : Nat} {sE sC : Nat → Nat → Nat → Nat} (hl : l = opsN1) (hsz : a0.tmps.size = 96) (E : EnvN1 a0 w B ix nn cy sz sh fk sE sC)
    (hR : R .normal (putAll a0 [(33, .pointer (some ⟨B, 0, none⟩)), (34, .int .i64 (ix : Nat)), (35, fnV fk), (36, .pointer (some ⟨B, 0, none⟩)), (37, .int .i64 (ix : Nat)), (38, .pointer (some ⟨B, 0, none⟩)), (39, .pointer (some ⟨B, ix, none⟩)), (40, .int .u64 (nn : Nat)), (41, .int .u64 (sz : Nat)), (42, .int .i64 (sh : Nat)), (43, .int .u64 ((sz * 2 ^ sh % m64 : Nat) : Int)), (44, .int .u64 (cy : Nat)), (45, .tuple #[.int .u64 (sE nn (sz * 2 ^ sh % m64) cy : Nat), .int .u64 (sC nn (sz * 2 ^ sh % m64) cy : Nat)]), (32, .tuple #[.int .u64 (sE nn (sz * 2 ^ sh % m64) cy : Nat), .int .u64 (sC nn (sz * 2 ^ sh % m64) cy : Nat)]), (46, .int .u64 (sE nn (sz * 2 ^ sh % m64) cy : Nat)), (47, .int .u64 (sC nn (sz * 2 ^ sh % m64) cy : Nat)), (48, .pointer (some ⟨B, 0, none⟩)), (49, .pointer (some ⟨B, ix, none⟩)), (10, .int .u64 (sC nn (sz * 2 ^ sh % m64) cy : Nat))]) (w.drew.setCell ⟨B, ix, none⟩ (.int .u64 (sE nn (sz * 2 ^ sh % m64) cy : Nat)))) :
    (Code.region id l.toArray true).wp Tryd.prog R a0 w := by
  subst hl
  refine wp_region_vals (vN1 B ix nn cy sz sh fk sE sC) 18 (w.drew.setCell ⟨B, ix, none⟩ (.int .u64 (sE nn (sz * 2 ^ sh % m64) cy : Nat))) (by kernel_rfl) (by decide +kernel) (fun i t h => ?_) ⟨oN1_18, rfl, rfl⟩ gdN1 (hopN1 E) (fun o a ho oth dep => ?_) (fun a size defers other vals => ?_)
  · rw [hsz]
    exact (by decide : ∀ t ∈ [10, 32, 33, 34, 35, 36, 37, 38, 39, 40, 41, 42, 43, 44, 45, 46, 47, 48, 49], t < 96) t (dstN1 h)
  · have e1 : oN1_18 = o := Option.some.inj ho
    subst e1
    exact yN1_18 E oth dep
  · have hA := act_puts (a := a) (a0 := a0) [(33, .pointer (some ⟨B, 0, none⟩)), (34, .int .i64 (ix : Nat)), (35, fnV fk), (36, .pointer (some ⟨B, 0, none⟩)), (37, .int .i64 (ix : Nat)), (38, .pointer (some ⟨B, 0, none⟩)), (39, .pointer (some ⟨B, ix, none⟩)), (40, .int .u64 (nn : Nat)), (41, .int .u64 (sz : Nat)), (42, .int .i64 (sh : Nat)), (43, .int .u64 ((sz * 2 ^ sh % m64 : Nat) : Int)), (44, .int .u64 (cy : Nat)), (45, .tuple #[.int .u64 (sE nn (sz * 2 ^ sh % m64) cy : Nat), .int .u64 (sC nn (sz * 2 ^ sh % m64) cy : Nat)]), (32, .tuple #[.int .u64 (sE nn (sz * 2 ^ sh % m64) cy : Nat), .int .u64 (sC nn (sz * 2 ^ sh % m64) cy : Nat)]), (46, .int .u64 (sE nn (sz * 2 ^ sh % m64) cy : Nat)), (47, .int .u64 (sC nn (sz * 2 ^ sh % m64) cy : Nat)), (48, .pointer (some ⟨B, 0, none⟩)), (49, .pointer (some ⟨B, ix, none⟩)), (10, .int .u64 (sC nn (sz * 2 ^ sh % m64) cy : Nat))] (by show [33, 34, 35, 36, 37, 38, 39, 40, 41, 42, 43, 44, 45, 32, 46, 47, 48, 49, 10].Nodup; decide) size defers (fun j hj => other j (fun k' hk => hj ?_)) (fun r hr => ?_)
    · refine ⟨?_⟩
      rw [hA]
      exact hR
    · have hm : ∀ t ∈ [10, 32, 33, 34, 35, 36, 37, 38, 39, 40, 41, 42, 43, 44, 45, 46, 47, 48, 49], t ∈ [33, 34, 35, 36, 37, 38, 39, 40, 41, 42, 43, 44, 45, 32, 46, 47, 48, 49, 10] := by decide
      exact hm j (dstN1 hk)
    · simp only [List.mem_cons, List.not_mem_nil, or_false] at hr
      rcases hr with rfl | rfl | rfl | rfl | rfl | rfl | rfl | rfl | rfl | rfl | rfl | rfl | rfl | rfl | rfl | rfl | rfl | rfl | rfl
      · exact vals 0 33 rfl
      · exact vals 1 34 rfl
      · exact vals 2 35 rfl
      · exact vals 3 36 rfl
      · exact vals 4 37 rfl
      · exact vals 5 38 rfl
      · exact vals 6 39 rfl
      · exact vals 7 40 rfl
      · exact vals 8 41 rfl
      · exact vals 9 42 rfl
      · exact vals 10 43 rfl
      · exact vals 11 44 rfl
      · exact vals 12 45 rfl
      · exact vals 13 32 rfl
      · exact vals 14 46 rfl
      · exact vals 15 47 rfl
      · exact vals 16 48 rfl
      · exact vals 17 49 rfl
      · exact vals 19 10 rfl
def oN2_0 : Oper := { dst := some 51, op := .move (.tmp 0), type := 94, pos := "number.go:37", after := #[], guard := none }
def oN2_1 : Oper := { dst := some 52, op := .move (.tmp 8), type := 3, pos := "number.go:37", after := #[], guard := none }
def oN2_2 : Oper := { dst := some 53, op := .binOp .add 3 (.tmp 52) (.const (.int .i64 1)) 3, type := 3, pos := "number.go:37", after := #[⟨1, .data⟩], guard := none }
def oN2_3 : Oper := { dst := some 54, op := .move (.tmp 6), type := 95, pos := "number.go:37", after := #[], guard := none }
def oN2_4 : Oper := { dst := some 55, op := .move (.tmp 0), type := 94, pos := "number.go:37", after := #[], guard := none }
def oN2_5 : Oper := { dst := some 56, op := .move (.tmp 8), type := 3, pos := "number.go:37", after := #[], guard := none }
def oN2_6 : Oper := { dst := some 57, op := .binOp .add 3 (.tmp 56) (.const (.int .i64 1)) 3, type := 3, pos := "number.go:37", after := #[⟨5, .data⟩], guard := none }
def oN2_7 : Oper := { dst := some 58, op := .nilCheck (.tmp 55), type := 0, pos := "number.go:37", after := #[⟨4, .data⟩], guard := none }
def oN2_8 : Oper := { dst := some 59, op := .indexAddr 66 (.tmp 58) (.tmp 57), type := 0, pos := "number.go:37", after := #[⟨7, .data⟩, ⟨6, .data⟩], guard := none }
def oN2_9 : Oper := { dst := some 60, op := .load 48 (.tmp 59), type := 48, pos := "number.go:37", after := #[⟨8, .data⟩], guard := none }
def oN2_10 : Oper := { dst := some 61, op := .move (.tmp 4), type := 48, pos := "number.go:37", after := #[], guard := none }
def oN2_11 : Oper := { dst := some 62, op := .move (.tmp 9), type := 3, pos := "number.go:37", after := #[], guard := none }
def oN2_12 : Oper := { dst := some 63, op := .binOp .sub 3 (.const (.int .i64 64)) (.tmp 62) 3, type := 3, pos := "number.go:37", after := #[⟨11, .data⟩], guard := none }
def oN2_13 : Oper := { dst := some 64, op := .binOp .shr 48 (.tmp 61) (.tmp 63) 3, type := 48, pos := "number.go:37", after := #[⟨10, .data⟩, ⟨12, .data⟩], guard := none }
def oN2_14 : Oper := { dst := some 65, op := .move (.tmp 10), type := 48, pos := "number.go:37", after := #[], guard := none }
def oN2_15 : Oper := { dst := some 66, op := .call { callee := .value (.tmp 54), args := #[.tmp 60, .tmp 64, .tmp 65], argTypes := #[48, 48, 48] }, type := 96, pos := "number.go:37", after := #[⟨3, .data⟩, ⟨9, .data⟩, ⟨13, .data⟩, ⟨14, .data⟩], guard := none }
def oN2_16 : Oper := { dst := some 50, op := .move (.tmp 66), type := 96, pos := "number.go:37", after := #[⟨15, .data⟩], guard := none }
def oN2_17 : Oper := { dst := some 67, op := .extract (.tmp 50) 0, type := 48, pos := "number.go:37", after := #[⟨16, .data⟩], guard := none }
def oN2_18 : Oper := { dst := some 68, op := .extract (.tmp 50) 1, type := 48, pos := "number.go:37", after := #[⟨16, .data⟩, ⟨21, .gcOnly .lateStores⟩], guard := none }
def oN2_19 : Oper := { dst := some 69, op := .nilCheck (.tmp 51), type := 0, pos := "number.go:37", after := #[⟨0, .data⟩], guard := none }
def oN2_20 : Oper := { dst := some 70, op := .indexAddr 66 (.tmp 69) (.tmp 53), type := 0, pos := "number.go:37", after := #[⟨19, .data⟩, ⟨2, .data⟩, ⟨0, .phase⟩, ⟨1, .phase⟩, ⟨2, .phase⟩, ⟨3, .phase⟩, ⟨4, .phase⟩, ⟨5, .phase⟩, ⟨6, .phase⟩, ⟨7, .phase⟩, ⟨8, .phase⟩, ⟨9, .phase⟩, ⟨10, .phase⟩, ⟨11, .phase⟩, ⟨12, .phase⟩, ⟨13, .phase⟩, ⟨14, .phase⟩, ⟨15, .phase⟩, ⟨16, .phase⟩, ⟨17, .phase⟩, ⟨18, .textOnly .lateStores⟩], guard := none }
def oN2_21 : Oper := { dst := none, op := .store 48 (.tmp 70) (.tmp 67), type := 0, pos := "number.go:37", after := #[⟨20, .data⟩, ⟨17, .data⟩, ⟨15, .chain⟩, ⟨0, .phase⟩, ⟨1, .phase⟩, ⟨2, .phase⟩, ⟨3, .phase⟩, ⟨4, .phase⟩, ⟨5, .phase⟩, ⟨6, .phase⟩, ⟨7, .phase⟩, ⟨8, .phase⟩, ⟨9, .phase⟩, ⟨10, .phase⟩, ⟨11, .phase⟩, ⟨12, .phase⟩, ⟨13, .phase⟩, ⟨14, .phase⟩, ⟨15, .phase⟩, ⟨16, .phase⟩, ⟨17, .phase⟩, ⟨18, .textOnly .lateStores⟩], guard := none }
def oN2_22 : Oper := { dst := some 10, op := .assign (.tmp 68), type := 48, pos := "number.go:37", after := #[⟨18, .data⟩, ⟨21, .chain⟩, ⟨0, .phase⟩, ⟨1, .phase⟩, ⟨2, .phase⟩, ⟨3, .phase⟩, ⟨4, .phase⟩, ⟨5, .phase⟩, ⟨6, .phase⟩, ⟨7, .phase⟩, ⟨8, .phase⟩, ⟨9, .phase⟩, ⟨10, .phase⟩, ⟨11, .phase⟩, ⟨12, .phase⟩, ⟨13, .phase⟩, ⟨14, .phase⟩, ⟨15, .phase⟩, ⟨16, .phase⟩, ⟨17, .phase⟩, ⟨18, .phase⟩, ⟨19, .phase⟩, ⟨20, .phase⟩, ⟨21, .phase⟩], guard := none }
def opsN2 : List Oper := [oN2_0, oN2_1, oN2_2, oN2_3, oN2_4, oN2_5, oN2_6, oN2_7, oN2_8, oN2_9, oN2_10, oN2_11, oN2_12, oN2_13, oN2_14, oN2_15, oN2_16, oN2_17, oN2_18, oN2_19, oN2_20, oN2_21, oN2_22]
def vN2 (B ix nn cy sz sh fk : Nat) (sE sC : Nat → Nat → Nat → Nat) (i : Nat) : Value := ([.pointer (some ⟨B, 0, none⟩), .int .i64 (ix : Nat), .int .i64 ((ix + 1 : Nat) : Int), fnV fk, .pointer (some ⟨B, 0, none⟩), .int .i64 (ix : Nat), .int .i64 ((ix + 1 : Nat) : Int), .pointer (some ⟨B, 0, none⟩), .pointer (some ⟨B, ix + 1, none⟩), .int .u64 (nn : Nat), .int .u64 (sz : Nat), .int .i64 (sh : Nat), .int .i64 ((64 - sh : Nat) : Int), .int .u64 ((sz / 2 ^ (64 - sh) : Nat) : Int), .int .u64 (cy : Nat), .tuple #[.int .u64 (sE nn (sz / 2 ^ (64 - sh)) cy : Nat), .int .u64 (sC nn (sz / 2 ^ (64 - sh)) cy : Nat)], .tuple #[.int .u64 (sE nn (sz / 2 ^ (64 - sh)) cy : Nat), .int .u64 (sC nn (sz / 2 ^ (64 - sh)) cy : Nat)], .int .u64 (sE nn (sz / 2 ^ (64 - sh)) cy : Nat), .int .u64 (sC nn (sz / 2 ^ (64 - sh)) cy : Nat), .pointer (some ⟨B, 0, none⟩), .pointer (some ⟨B, ix + 1, none⟩), undef, .int .u64 (sC nn (sz / 2 ^ (64 - sh)) cy : Nat)] : List Value).getD i undef
structure EnvN2 (a0 : Act) (w : World) (B ix nn cy sz sh fk : Nat) (sE sC : Nat → Nat → Nat → Nat) : Prop where
  h0 : a0.tmps[0]? = some (.pointer (some ⟨B, 0, none⟩))
  h8 : a0.tmps[8]? = some (.int .i64 (ix : Nat))
  h6 : a0.tmps[6]? = some (fnV fk)
  h10 : a0.tmps[10]? = some (.int .u64 (cy : Nat))
  hs : Steps fk sE sC
  hc : cy ≤ 1
  hi : ix + 1 < 5
  c : w.drew.cell? ⟨B, ix + 1, none⟩ = some (.int .u64 (nn : Nat))
  z : w.drew.frozen? ⟨B, ix + 1, none⟩ = false
  h4 : a0.tmps[4]? = some (.int .u64 (sz : Nat))
  h9 : a0.tmps[9]? = some (.int .i64 (sh : Nat))
  hsh : sh ≤ 64
theorem dstN2 {k j : Nat} (h : dstOf opsN2 k = some j) : j ∈ [10, 50, 51, 52, 53, 54, 55, 56, 57, 58, 59, 60, 61, 62, 63, 64, 65, 66, 67, 68, 69, 70] := by
  rcases k with _ | _ | _ | _ | _ | _ | _ | _ | _ | _ | _ | _ | _ | _ | _ | _ | _ | _ | _ | _ | _ | _ | _ | k
  · have e := Option.some.inj h; subst e; decide
  · have e := Option.some.inj h; subst e; decide
  · have e := Option.some.inj h; subst e; decide
  · have e := Option.some.inj h; subst e; decide
  · have e := Option.some.inj h; subst e; decide
  · have e := Option.some.inj h; subst e; decide
  · have e := Option.some.inj h; subst e; decide
  · have e := Option.some.inj h; subst e; decide
  · have e := Option.some.inj h; subst e; decide
  · have e := Option.some.inj h; subst e; decide
  · have e := Option.some.inj h; subst e; decide
  · have e := Option.some.inj h; subst e; decide
  · have e := Option.some.inj h; subst e; decide
  · have e := Option.some.inj h; subst e; decide
  · have e := Option.some.inj h; subst e; decide
  · have e := Option.some.inj h; subst e; decide
  · have e := Option.some.inj h; subst e; decide
  · have e := Option.some.inj h; subst e; decide
  · have e := Option.some.inj h; subst e; decide
  · have e := Option.some.inj h; subst e; decide
  · have e := Option.some.inj h; subst e; decide
  · cases h
  · have e := Option.some.inj h; subst e; decide
  · cases h
theorem yN2_0 {a0 : Act} {w : World} {B ix nn cy sz sh fk : Nat} {sE sC : Nat → Nat → Nat → Nat} (E : EnvN2 a0 w B ix nn cy sz sh fk sE sC) {a : Act} {x : World} (hx : x = w.drew ∨ (x = w.drew.setCell ⟨B, ix + 1, none⟩ (.int .u64 (sE nn (sz / 2 ^ (64 - sh)) cy : Nat)) ∧ waits opsN2 21 0 = false)) (oth : ∀ j, (∀ k, dstOf opsN2 k ≠ some j) → a.tmps[j]? = a0.tmps[j]?) (dep : ∀ e ∈ oN2_0.after, Region.binds .any e = true → e.on ≠ 21 → ∀ t, dstOf opsN2 e.on = some t → a.tmps[t]? = some (vN2 B ix nn cy sz sh fk sE sC e.on)) (fr : ∀ j t, waits opsN2 j 0 = true → dstOf opsN2 j = some t → a.tmps[t]? = a0.tmps[t]?) : (execOp a.eval oN2_0).run Tryd.prog x = .ok (.value (vN2 B ix nn cy sz sh fk sE sC 0)) x := by
  exact run_mv (tmp_eval ((oth 0 (fun k h => absurd (dstN2 h) (by decide))).trans E.h0))
theorem yN2_1 {a0 : Act} {w : World} {B ix nn cy sz sh fk : Nat} {sE sC : Nat → Nat → Nat → Nat} (E : EnvN2 a0 w B ix nn cy sz sh fk sE sC) {a : Act} {x : World} (hx : x = w.drew ∨ (x = w.drew.setCell ⟨B, ix + 1, none⟩ (.int .u64 (sE nn (sz / 2 ^ (64 - sh)) cy : Nat)) ∧ waits opsN2 21 1 = false)) (oth : ∀ j, (∀ k, dstOf opsN2 k ≠ some j) → a.tmps[j]? = a0.tmps[j]?) (dep : ∀ e ∈ oN2_1.after, Region.binds .any e = true → e.on ≠ 21 → ∀ t, dstOf opsN2 e.on = some t → a.tmps[t]? = some (vN2 B ix nn cy sz sh fk sE sC e.on)) (fr : ∀ j t, waits opsN2 j 1 = true → dstOf opsN2 j = some t → a.tmps[t]? = a0.tmps[t]?) : (execOp a.eval oN2_1).run Tryd.prog x = .ok (.value (vN2 B ix nn cy sz sh fk sE sC 1)) x := by
  exact run_mv (tmp_eval ((oth 8 (fun k h => absurd (dstN2 h) (by decide))).trans E.h8))
theorem yN2_2 {a0 : Act} {w : World} {B ix nn cy sz sh fk : Nat} {sE sC : Nat → Nat → Nat → Nat} (E : EnvN2 a0 w B ix nn cy sz sh fk sE sC) {a : Act} {x : World} (hx : x = w.drew ∨ (x = w.drew.setCell ⟨B, ix + 1, none⟩ (.int .u64 (sE nn (sz / 2 ^ (64 - sh)) cy : Nat)) ∧ waits opsN2 21 2 = false)) (oth : ∀ j, (∀ k, dstOf opsN2 k ≠ some j) → a.tmps[j]? = a0.tmps[j]?) (dep : ∀ e ∈ oN2_2.after, Region.binds .any e = true → e.on ≠ 21 → ∀ t, dstOf opsN2 e.on = some t → a.tmps[t]? = some (vN2 B ix nn cy sz sh fk sE sC e.on)) (fr : ∀ j t, waits opsN2 j 2 = true → dstOf opsN2 j = some t → a.tmps[t]? = a0.tmps[t]?) : (execOp a.eval oN2_2).run Tryd.prog x = .ok (.value (vN2 B ix nn cy sz sh fk sE sC 2)) x := by
  have t1 : a.tmps[52]? = some (.int .i64 (ix : Nat)) := dep ⟨1, .data⟩ (by simp [oN2_2]) rfl (by decide) 52 rfl
  exact run_inc rfl (tmp_eval t1) (Nat.lt_of_le_of_lt (Nat.le_of_lt (Nat.lt_of_succ_lt E.hi)) (by decide))
theorem yN2_3 {a0 : Act} {w : World} {B ix nn cy sz sh fk : Nat} {sE sC : Nat → Nat → Nat → Nat} (E : EnvN2 a0 w B ix nn cy sz sh fk sE sC) {a : Act} {x : World} (hx : x = w.drew ∨ (x = w.drew.setCell ⟨B, ix + 1, none⟩ (.int .u64 (sE nn (sz / 2 ^ (64 - sh)) cy : Nat)) ∧ waits opsN2 21 3 = false)) (oth : ∀ j, (∀ k, dstOf opsN2 k ≠ some j) → a.tmps[j]? = a0.tmps[j]?) (dep : ∀ e ∈ oN2_3.after, Region.binds .any e = true → e.on ≠ 21 → ∀ t, dstOf opsN2 e.on = some t → a.tmps[t]? = some (vN2 B ix nn cy sz sh fk sE sC e.on)) (fr : ∀ j t, waits opsN2 j 3 = true → dstOf opsN2 j = some t → a.tmps[t]? = a0.tmps[t]?) : (execOp a.eval oN2_3).run Tryd.prog x = .ok (.value (vN2 B ix nn cy sz sh fk sE sC 3)) x := by
  exact run_mv (tmp_eval ((oth 6 (fun k h => absurd (dstN2 h) (by decide))).trans E.h6))
theorem yN2_4 {a0 : Act} {w : World} {B ix nn cy sz sh fk : Nat} {sE sC : Nat → Nat → Nat → Nat} (E : EnvN2 a0 w B ix nn cy sz sh fk sE sC) {a : Act} {x : World} (hx : x = w.drew ∨ (x = w.drew.setCell ⟨B, ix + 1, none⟩ (.int .u64 (sE nn (sz / 2 ^ (64 - sh)) cy : Nat)) ∧ waits opsN2 21 4 = false)) (oth : ∀ j, (∀ k, dstOf opsN2 k ≠ some j) → a.tmps[j]? = a0.tmps[j]?) (dep : ∀ e ∈ oN2_4.after, Region.binds .any e = true → e.on ≠ 21 → ∀ t, dstOf opsN2 e.on = some t → a.tmps[t]? = some (vN2 B ix nn cy sz sh fk sE sC e.on)) (fr : ∀ j t, waits opsN2 j 4 = true → dstOf opsN2 j = some t → a.tmps[t]? = a0.tmps[t]?) : (execOp a.eval oN2_4).run Tryd.prog x = .ok (.value (vN2 B ix nn cy sz sh fk sE sC 4)) x := by
  exact run_mv (tmp_eval ((oth 0 (fun k h => absurd (dstN2 h) (by decide))).trans E.h0))
theorem yN2_5 {a0 : Act} {w : World} {B ix nn cy sz sh fk : Nat} {sE sC : Nat → Nat → Nat → Nat} (E : EnvN2 a0 w B ix nn cy sz sh fk sE sC) {a : Act} {x : World} (hx : x = w.drew ∨ (x = w.drew.setCell ⟨B, ix + 1, none⟩ (.int .u64 (sE nn (sz / 2 ^ (64 - sh)) cy : Nat)) ∧ waits opsN2 21 5 = false)) (oth : ∀ j, (∀ k, dstOf opsN2 k ≠ some j) → a.tmps[j]? = a0.tmps[j]?) (dep : ∀ e ∈ oN2_5.after, Region.binds .any e = true → e.on ≠ 21 → ∀ t, dstOf opsN2 e.on = some t → a.tmps[t]? = some (vN2 B ix nn cy sz sh fk sE sC e.on)) (fr : ∀ j t, waits opsN2 j 5 = true → dstOf opsN2 j = some t → a.tmps[t]? = a0.tmps[t]?) : (execOp a.eval oN2_5).run Tryd.prog x = .ok (.value (vN2 B ix nn cy sz sh fk sE sC 5)) x := by
  exact run_mv (tmp_eval ((oth 8 (fun k h => absurd (dstN2 h) (by decide))).trans E.h8))
theorem yN2_6 {a0 : Act} {w : World} {B ix nn cy sz sh fk : Nat} {sE sC : Nat → Nat → Nat → Nat} (E : EnvN2 a0 w B ix nn cy sz sh fk sE sC) {a : Act} {x : World} (hx : x = w.drew ∨ (x = w.drew.setCell ⟨B, ix + 1, none⟩ (.int .u64 (sE nn (sz / 2 ^ (64 - sh)) cy : Nat)) ∧ waits opsN2 21 6 = false)) (oth : ∀ j, (∀ k, dstOf opsN2 k ≠ some j) → a.tmps[j]? = a0.tmps[j]?) (dep : ∀ e ∈ oN2_6.after, Region.binds .any e = true → e.on ≠ 21 → ∀ t, dstOf opsN2 e.on = some t → a.tmps[t]? = some (vN2 B ix nn cy sz sh fk sE sC e.on)) (fr : ∀ j t, waits opsN2 j 6 = true → dstOf opsN2 j = some t → a.tmps[t]? = a0.tmps[t]?) : (execOp a.eval oN2_6).run Tryd.prog x = .ok (.value (vN2 B ix nn cy sz sh fk sE sC 6)) x := by
  have t5 : a.tmps[56]? = some (.int .i64 (ix : Nat)) := dep ⟨5, .data⟩ (by simp [oN2_6]) rfl (by decide) 56 rfl
  exact run_inc rfl (tmp_eval t5) (Nat.lt_of_le_of_lt (Nat.le_of_lt (Nat.lt_of_succ_lt E.hi)) (by decide))
theorem yN2_7 {a0 : Act} {w : World} {B ix nn cy sz sh fk : Nat} {sE sC : Nat → Nat → Nat → Nat} (E : EnvN2 a0 w B ix nn cy sz sh fk sE sC) {a : Act} {x : World} (hx : x = w.drew ∨ (x = w.drew.setCell ⟨B, ix + 1, none⟩ (.int .u64 (sE nn (sz / 2 ^ (64 - sh)) cy : Nat)) ∧ waits opsN2 21 7 = false)) (oth : ∀ j, (∀ k, dstOf opsN2 k ≠ some j) → a.tmps[j]? = a0.tmps[j]?) (dep : ∀ e ∈ oN2_7.after, Region.binds .any e = true → e.on ≠ 21 → ∀ t, dstOf opsN2 e.on = some t → a.tmps[t]? = some (vN2 B ix nn cy sz sh fk sE sC e.on)) (fr : ∀ j t, waits opsN2 j 7 = true → dstOf opsN2 j = some t → a.tmps[t]? = a0.tmps[t]?) : (execOp a.eval oN2_7).run Tryd.prog x = .ok (.value (vN2 B ix nn cy sz sh fk sE sC 7)) x := by
  have t4 : a.tmps[55]? = some (.pointer (some ⟨B, 0, none⟩)) := dep ⟨4, .data⟩ (by simp [oN2_7]) rfl (by decide) 55 rfl
  exact run_nck (tmp_eval t4)
theorem yN2_8 {a0 : Act} {w : World} {B ix nn cy sz sh fk : Nat} {sE sC : Nat → Nat → Nat → Nat} (E : EnvN2 a0 w B ix nn cy sz sh fk sE sC) {a : Act} {x : World} (hx : x = w.drew ∨ (x = w.drew.setCell ⟨B, ix + 1, none⟩ (.int .u64 (sE nn (sz / 2 ^ (64 - sh)) cy : Nat)) ∧ waits opsN2 21 8 = false)) (oth : ∀ j, (∀ k, dstOf opsN2 k ≠ some j) → a.tmps[j]? = a0.tmps[j]?) (dep : ∀ e ∈ oN2_8.after, Region.binds .any e = true → e.on ≠ 21 → ∀ t, dstOf opsN2 e.on = some t → a.tmps[t]? = some (vN2 B ix nn cy sz sh fk sE sC e.on)) (fr : ∀ j t, waits opsN2 j 8 = true → dstOf opsN2 j = some t → a.tmps[t]? = a0.tmps[t]?) : (execOp a.eval oN2_8).run Tryd.prog x = .ok (.value (vN2 B ix nn cy sz sh fk sE sC 8)) x := by
  have t7 : a.tmps[58]? = some (.pointer (some ⟨B, 0, none⟩)) := dep ⟨7, .data⟩ (by simp [oN2_8]) rfl (by decide) 58 rfl
  have t6 : a.tmps[57]? = some (.int .i64 ((ix + 1 : Nat) : Int)) := dep ⟨6, .data⟩ (by simp [oN2_8]) rfl (by decide) 57 rfl
  exact run_word (tmp_eval t7) (tmp_eval t6) E.hi
theorem yN2_9 {a0 : Act} {w : World} {B ix nn cy sz sh fk : Nat} {sE sC : Nat → Nat → Nat → Nat} (E : EnvN2 a0 w B ix nn cy sz sh fk sE sC) {a : Act} {x : World} (hx : x = w.drew ∨ (x = w.drew.setCell ⟨B, ix + 1, none⟩ (.int .u64 (sE nn (sz / 2 ^ (64 - sh)) cy : Nat)) ∧ waits opsN2 21 9 = false)) (oth : ∀ j, (∀ k, dstOf opsN2 k ≠ some j) → a.tmps[j]? = a0.tmps[j]?) (dep : ∀ e ∈ oN2_9.after, Region.binds .any e = true → e.on ≠ 21 → ∀ t, dstOf opsN2 e.on = some t → a.tmps[t]? = some (vN2 B ix nn cy sz sh fk sE sC e.on)) (fr : ∀ j t, waits opsN2 j 9 = true → dstOf opsN2 j = some t → a.tmps[t]? = a0.tmps[t]?) : (execOp a.eval oN2_9).run Tryd.prog x = .ok (.value (vN2 B ix nn cy sz sh fk sE sC 9)) x := by
  have t8 : a.tmps[59]? = some (.pointer (some ⟨B, ix + 1, none⟩)) := dep ⟨8, .data⟩ (by simp [oN2_9]) rfl (by decide) 59 rfl
  rcases hx with rfl | ⟨_, hx⟩
  · exact run_u64 (tmp_eval t8) E.c
  · exact absurd hx (by decide +kernel)
theorem yN2_10 {a0 : Act} {w : World} {B ix nn cy sz sh fk : Nat} {sE sC : Nat → Nat → Nat → Nat} (E : EnvN2 a0 w B ix nn cy sz sh fk sE sC) {a : Act} {x : World} (hx : x = w.drew ∨ (x = w.drew.setCell ⟨B, ix + 1, none⟩ (.int .u64 (sE nn (sz / 2 ^ (64 - sh)) cy : Nat)) ∧ waits opsN2 21 10 = false)) (oth : ∀ j, (∀ k, dstOf opsN2 k ≠ some j) → a.tmps[j]? = a0.tmps[j]?) (dep : ∀ e ∈ oN2_10.after, Region.binds .any e = true → e.on ≠ 21 → ∀ t, dstOf opsN2 e.on = some t → a.tmps[t]? = some (vN2 B ix nn cy sz sh fk sE sC e.on)) (fr : ∀ j t, waits opsN2 j 10 = true → dstOf opsN2 j = some t → a.tmps[t]? = a0.tmps[t]?) : (execOp a.eval oN2_10).run Tryd.prog x = .ok (.value (vN2 B ix nn cy sz sh fk sE sC 10)) x := by
  exact run_mv (tmp_eval ((oth 4 (fun k h => absurd (dstN2 h) (by decide))).trans E.h4))
theorem yN2_11 {a0 : Act} {w : World} {B ix nn cy sz sh fk : Nat} {sE sC : Nat → Nat → Nat → Nat} (E : EnvN2 a0 w B ix nn cy sz sh fk sE sC) {a : Act} {x : World} (hx : x = w.drew ∨ (x = w.drew.setCell ⟨B, ix + 1, none⟩ (.int .u64 (sE nn (sz / 2 ^ (64 - sh)) cy : Nat)) ∧ waits opsN2 21 11 = false)) (oth : ∀ j, (∀ k, dstOf opsN2 k ≠ some j) → a.tmps[j]? = a0.tmps[j]?) (dep : ∀ e ∈ oN2_11.after, Region.binds .any e = true → e.on ≠ 21 → ∀ t, dstOf opsN2 e.on = some t → a.tmps[t]? = some (vN2 B ix nn cy sz sh fk sE sC e.on)) (fr : ∀ j t, waits opsN2 j 11 = true → dstOf opsN2 j = some t → a.tmps[t]? = a0.tmps[t]?) : (execOp a.eval oN2_11).run Tryd.prog x = .ok (.value (vN2 B ix nn cy sz sh fk sE sC 11)) x := by
  exact run_mv (tmp_eval ((oth 9 (fun k h => absurd (dstN2 h) (by decide))).trans E.h9))
theorem yN2_12 {a0 : Act} {w : World} {B ix nn cy sz sh fk : Nat} {sE sC : Nat → Nat → Nat → Nat} (E : EnvN2 a0 w B ix nn cy sz sh fk sE sC) {a : Act} {x : World} (hx : x = w.drew ∨ (x = w.drew.setCell ⟨B, ix + 1, none⟩ (.int .u64 (sE nn (sz / 2 ^ (64 - sh)) cy : Nat)) ∧ waits opsN2 21 12 = false)) (oth : ∀ j, (∀ k, dstOf opsN2 k ≠ some j) → a.tmps[j]? = a0.tmps[j]?) (dep : ∀ e ∈ oN2_12.after, Region.binds .any e = true → e.on ≠ 21 → ∀ t, dstOf opsN2 e.on = some t → a.tmps[t]? = some (vN2 B ix nn cy sz sh fk sE sC e.on)) (fr : ∀ j t, waits opsN2 j 12 = true → dstOf opsN2 j = some t → a.tmps[t]? = a0.tmps[t]?) : (execOp a.eval oN2_12).run Tryd.prog x = .ok (.value (vN2 B ix nn cy sz sh fk sE sC 12)) x := by
  have t11 : a.tmps[62]? = some (.int .i64 (sh : Nat)) := dep ⟨11, .data⟩ (by simp [oN2_12]) rfl (by decide) 62 rfl
  exact run_less rfl (tmp_eval t11) E.hsh
theorem yN2_13 {a0 : Act} {w : World} {B ix nn cy sz sh fk : Nat} {sE sC : Nat → Nat → Nat → Nat} (E : EnvN2 a0 w B ix nn cy sz sh fk sE sC) {a : Act} {x : World} (hx : x = w.drew ∨ (x = w.drew.setCell ⟨B, ix + 1, none⟩ (.int .u64 (sE nn (sz / 2 ^ (64 - sh)) cy : Nat)) ∧ waits opsN2 21 13 = false)) (oth : ∀ j, (∀ k, dstOf opsN2 k ≠ some j) → a.tmps[j]? = a0.tmps[j]?) (dep : ∀ e ∈ oN2_13.after, Region.binds .any e = true → e.on ≠ 21 → ∀ t, dstOf opsN2 e.on = some t → a.tmps[t]? = some (vN2 B ix nn cy sz sh fk sE sC e.on)) (fr : ∀ j t, waits opsN2 j 13 = true → dstOf opsN2 j = some t → a.tmps[t]? = a0.tmps[t]?) : (execOp a.eval oN2_13).run Tryd.prog x = .ok (.value (vN2 B ix nn cy sz sh fk sE sC 13)) x := by
  have t10 : a.tmps[61]? = some (.int .u64 (sz : Nat)) := dep ⟨10, .data⟩ (by simp [oN2_13]) rfl (by decide) 61 rfl
  have t12 : a.tmps[63]? = some (.int .i64 ((64 - sh : Nat) : Int)) := dep ⟨12, .data⟩ (by simp [oN2_13]) rfl (by decide) 63 rfl
  exact run_shr (tmp_eval t10) (tmp_eval t12) (Nat.sub_le 64 sh)
theorem yN2_14 {a0 : Act} {w : World} {B ix nn cy sz sh fk : Nat} {sE sC : Nat → Nat → Nat → Nat} (E : EnvN2 a0 w B ix nn cy sz sh fk sE sC) {a : Act} {x : World} (hx : x = w.drew ∨ (x = w.drew.setCell ⟨B, ix + 1, none⟩ (.int .u64 (sE nn (sz / 2 ^ (64 - sh)) cy : Nat)) ∧ waits opsN2 21 14 = false)) (oth : ∀ j, (∀ k, dstOf opsN2 k ≠ some j) → a.tmps[j]? = a0.tmps[j]?) (dep : ∀ e ∈ oN2_14.after, Region.binds .any e = true → e.on ≠ 21 → ∀ t, dstOf opsN2 e.on = some t → a.tmps[t]? = some (vN2 B ix nn cy sz sh fk sE sC e.on)) (fr : ∀ j t, waits opsN2 j 14 = true → dstOf opsN2 j = some t → a.tmps[t]? = a0.tmps[t]?) : (execOp a.eval oN2_14).run Tryd.prog x = .ok (.value (vN2 B ix nn cy sz sh fk sE sC 14)) x := by
  exact run_mv (tmp_eval ((fr 22 10 (by decide +kernel) rfl).trans E.h10))
theorem yN2_15 {a0 : Act} {w : World} {B ix nn cy sz sh fk : Nat} {sE sC : Nat → Nat → Nat → Nat} (E : EnvN2 a0 w B ix nn cy sz sh fk sE sC) {a : Act} {x : World} (hx : x = w.drew ∨ (x = w.drew.setCell ⟨B, ix + 1, none⟩ (.int .u64 (sE nn (sz / 2 ^ (64 - sh)) cy : Nat)) ∧ waits opsN2 21 15 = false)) (oth : ∀ j, (∀ k, dstOf opsN2 k ≠ some j) → a.tmps[j]? = a0.tmps[j]?) (dep : ∀ e ∈ oN2_15.after, Region.binds .any e = true → e.on ≠ 21 → ∀ t, dstOf opsN2 e.on = some t → a.tmps[t]? = some (vN2 B ix nn cy sz sh fk sE sC e.on)) (fr : ∀ j t, waits opsN2 j 15 = true → dstOf opsN2 j = some t → a.tmps[t]? = a0.tmps[t]?) : (execOp a.eval oN2_15).run Tryd.prog x = .ok (.value (vN2 B ix nn cy sz sh fk sE sC 15)) x := by
  have t3 : a.tmps[54]? = some (fnV fk) := dep ⟨3, .data⟩ (by simp [oN2_15]) rfl (by decide) 54 rfl
  have t9 : a.tmps[60]? = some (.int .u64 (nn : Nat)) := dep ⟨9, .data⟩ (by simp [oN2_15]) rfl (by decide) 60 rfl
  have t13 : a.tmps[64]? = some (.int .u64 ((sz / 2 ^ (64 - sh) : Nat) : Int)) := dep ⟨13, .data⟩ (by simp [oN2_15]) rfl (by decide) 64 rfl
  have t14 : a.tmps[65]? = some (.int .u64 (cy : Nat)) := dep ⟨14, .data⟩ (by simp [oN2_15]) rfl (by decide) 65 rfl
  exact run_step E.hs (tmp_eval t3) (tmp_eval t9) (tmp_eval t13) (tmp_eval t14) E.hc
theorem yN2_16 {a0 : Act} {w : World} {B ix nn cy sz sh fk : Nat} {sE sC : Nat → Nat → Nat → Nat} (E : EnvN2 a0 w B ix nn cy sz sh fk sE sC) {a : Act} {x : World} (hx : x = w.drew ∨ (x = w.drew.setCell ⟨B, ix + 1, none⟩ (.int .u64 (sE nn (sz / 2 ^ (64 - sh)) cy : Nat)) ∧ waits opsN2 21 16 = false)) (oth : ∀ j, (∀ k, dstOf opsN2 k ≠ some j) → a.tmps[j]? = a0.tmps[j]?) (dep : ∀ e ∈ oN2_16.after, Region.binds .any e = true → e.on ≠ 21 → ∀ t, dstOf opsN2 e.on = some t → a.tmps[t]? = some (vN2 B ix nn cy sz sh fk sE sC e.on)) (fr : ∀ j t, waits opsN2 j 16 = true → dstOf opsN2 j = some t → a.tmps[t]? = a0.tmps[t]?) : (execOp a.eval oN2_16).run Tryd.prog x = .ok (.value (vN2 B ix nn cy sz sh fk sE sC 16)) x := by
  have t15 : a.tmps[66]? = some (.tuple #[.int .u64 (sE nn (sz / 2 ^ (64 - sh)) cy : Nat), .int .u64 (sC nn (sz / 2 ^ (64 - sh)) cy : Nat)]) := dep ⟨15, .data⟩ (by simp [oN2_16]) rfl (by decide) 66 rfl
  exact run_mv (tmp_eval t15)
theorem yN2_17 {a0 : Act} {w : World} {B ix nn cy sz sh fk : Nat} {sE sC : Nat → Nat → Nat → Nat} (E : EnvN2 a0 w B ix nn cy sz sh fk sE sC) {a : Act} {x : World} (hx : x = w.drew ∨ (x = w.drew.setCell ⟨B, ix + 1, none⟩ (.int .u64 (sE nn (sz / 2 ^ (64 - sh)) cy : Nat)) ∧ waits opsN2 21 17 = false)) (oth : ∀ j, (∀ k, dstOf opsN2 k ≠ some j) → a.tmps[j]? = a0.tmps[j]?) (dep : ∀ e ∈ oN2_17.after, Region.binds .any e = true → e.on ≠ 21 → ∀ t, dstOf opsN2 e.on = some t → a.tmps[t]? = some (vN2 B ix nn cy sz sh fk sE sC e.on)) (fr : ∀ j t, waits opsN2 j 17 = true → dstOf opsN2 j = some t → a.tmps[t]? = a0.tmps[t]?) : (execOp a.eval oN2_17).run Tryd.prog x = .ok (.value (vN2 B ix nn cy sz sh fk sE sC 17)) x := by
  have t16 : a.tmps[50]? = some (.tuple #[.int .u64 (sE nn (sz / 2 ^ (64 - sh)) cy : Nat), .int .u64 (sC nn (sz / 2 ^ (64 - sh)) cy : Nat)]) := dep ⟨16, .data⟩ (by simp [oN2_17]) rfl (by decide) 50 rfl
  exact run_ex0 (tmp_eval t16)
theorem yN2_18 {a0 : Act} {w : World} {B ix nn cy sz sh fk : Nat} {sE sC : Nat → Nat → Nat → Nat} (E : EnvN2 a0 w B ix nn cy sz sh fk sE sC) {a : Act} {x : World} (hx : x = w.drew ∨ (x = w.drew.setCell ⟨B, ix + 1, none⟩ (.int .u64 (sE nn (sz / 2 ^ (64 - sh)) cy : Nat)) ∧ waits opsN2 21 18 = false)) (oth : ∀ j, (∀ k, dstOf opsN2 k ≠ some j) → a.tmps[j]? = a0.tmps[j]?) (dep : ∀ e ∈ oN2_18.after, Region.binds .any e = true → e.on ≠ 21 → ∀ t, dstOf opsN2 e.on = some t → a.tmps[t]? = some (vN2 B ix nn cy sz sh fk sE sC e.on)) (fr : ∀ j t, waits opsN2 j 18 = true → dstOf opsN2 j = some t → a.tmps[t]? = a0.tmps[t]?) : (execOp a.eval oN2_18).run Tryd.prog x = .ok (.value (vN2 B ix nn cy sz sh fk sE sC 18)) x := by
  have t16 : a.tmps[50]? = some (.tuple #[.int .u64 (sE nn (sz / 2 ^ (64 - sh)) cy : Nat), .int .u64 (sC nn (sz / 2 ^ (64 - sh)) cy : Nat)]) := dep ⟨16, .data⟩ (by simp [oN2_18]) rfl (by decide) 50 rfl
  exact run_ex1 (tmp_eval t16)
theorem yN2_19 {a0 : Act} {w : World} {B ix nn cy sz sh fk : Nat} {sE sC : Nat → Nat → Nat → Nat} (E : EnvN2 a0 w B ix nn cy sz sh fk sE sC) {a : Act} {x : World} (hx : x = w.drew ∨ (x = w.drew.setCell ⟨B, ix + 1, none⟩ (.int .u64 (sE nn (sz / 2 ^ (64 - sh)) cy : Nat)) ∧ waits opsN2 21 19 = false)) (oth : ∀ j, (∀ k, dstOf opsN2 k ≠ some j) → a.tmps[j]? = a0.tmps[j]?) (dep : ∀ e ∈ oN2_19.after, Region.binds .any e = true → e.on ≠ 21 → ∀ t, dstOf opsN2 e.on = some t → a.tmps[t]? = some (vN2 B ix nn cy sz sh fk sE sC e.on)) (fr : ∀ j t, waits opsN2 j 19 = true → dstOf opsN2 j = some t → a.tmps[t]? = a0.tmps[t]?) : (execOp a.eval oN2_19).run Tryd.prog x = .ok (.value (vN2 B ix nn cy sz sh fk sE sC 19)) x := by
  have t0 : a.tmps[51]? = some (.pointer (some ⟨B, 0, none⟩)) := dep ⟨0, .data⟩ (by simp [oN2_19]) rfl (by decide) 51 rfl
  exact run_nck (tmp_eval t0)
theorem yN2_20 {a0 : Act} {w : World} {B ix nn cy sz sh fk : Nat} {sE sC : Nat → Nat → Nat → Nat} (E : EnvN2 a0 w B ix nn cy sz sh fk sE sC) {a : Act} {x : World} (hx : x = w.drew ∨ (x = w.drew.setCell ⟨B, ix + 1, none⟩ (.int .u64 (sE nn (sz / 2 ^ (64 - sh)) cy : Nat)) ∧ waits opsN2 21 20 = false)) (oth : ∀ j, (∀ k, dstOf opsN2 k ≠ some j) → a.tmps[j]? = a0.tmps[j]?) (dep : ∀ e ∈ oN2_20.after, Region.binds .any e = true → e.on ≠ 21 → ∀ t, dstOf opsN2 e.on = some t → a.tmps[t]? = some (vN2 B ix nn cy sz sh fk sE sC e.on)) (fr : ∀ j t, waits opsN2 j 20 = true → dstOf opsN2 j = some t → a.tmps[t]? = a0.tmps[t]?) : (execOp a.eval oN2_20).run Tryd.prog x = .ok (.value (vN2 B ix nn cy sz sh fk sE sC 20)) x := by
  have t19 : a.tmps[69]? = some (.pointer (some ⟨B, 0, none⟩)) := dep ⟨19, .data⟩ (by simp [oN2_20]) rfl (by decide) 69 rfl
  have t2 : a.tmps[53]? = some (.int .i64 ((ix + 1 : Nat) : Int)) := dep ⟨2, .data⟩ (by simp [oN2_20]) rfl (by decide) 53 rfl
  exact run_word (tmp_eval t19) (tmp_eval t2) E.hi
theorem yN2_21 {a0 : Act} {w : World} {B ix nn cy sz sh fk : Nat} {sE sC : Nat → Nat → Nat → Nat} (E : EnvN2 a0 w B ix nn cy sz sh fk sE sC) {a : Act} (oth : ∀ j, (∀ k, dstOf opsN2 k ≠ some j) → a.tmps[j]? = a0.tmps[j]?) (dep : ∀ e ∈ oN2_21.after, Region.binds .any e = true → e.on ≠ 21 → ∀ t, dstOf opsN2 e.on = some t → a.tmps[t]? = some (vN2 B ix nn cy sz sh fk sE sC e.on)) : (execOp a.eval oN2_21).run Tryd.prog w.drew = .ok .skip (w.drew.setCell ⟨B, ix + 1, none⟩ (.int .u64 (sE nn (sz / 2 ^ (64 - sh)) cy : Nat))) := by
  have t20 : a.tmps[70]? = some (.pointer (some ⟨B, ix + 1, none⟩)) := dep ⟨20, .data⟩ (by simp [oN2_21]) rfl (by decide) 70 rfl
  have t17 : a.tmps[67]? = some (.int .u64 (sE nn (sz / 2 ^ (64 - sh)) cy : Nat)) := dep ⟨17, .data⟩ (by simp [oN2_21]) rfl (by decide) 67 rfl
  exact run_put (tmp_eval t20) (tmp_eval t17) E.c E.z
theorem yN2_22 {a0 : Act} {w : World} {B ix nn cy sz sh fk : Nat} {sE sC : Nat → Nat → Nat → Nat} (E : EnvN2 a0 w B ix nn cy sz sh fk sE sC) {a : Act} {x : World} (hx : x = w.drew ∨ (x = w.drew.setCell ⟨B, ix + 1, none⟩ (.int .u64 (sE nn (sz / 2 ^ (64 - sh)) cy : Nat)) ∧ waits opsN2 21 22 = false)) (oth : ∀ j, (∀ k, dstOf opsN2 k ≠ some j) → a.tmps[j]? = a0.tmps[j]?) (dep : ∀ e ∈ oN2_22.after, Region.binds .any e = true → e.on ≠ 21 → ∀ t, dstOf opsN2 e.on = some t → a.tmps[t]? = some (vN2 B ix nn cy sz sh fk sE sC e.on)) (fr : ∀ j t, waits opsN2 j 22 = true → dstOf opsN2 j = some t → a.tmps[t]? = a0.tmps[t]?) : (execOp a.eval oN2_22).run Tryd.prog x = .ok (.value (vN2 B ix nn cy sz sh fk sE sC 22)) x := by
  have t18 : a.tmps[68]? = some (.int .u64 (sC nn (sz / 2 ^ (64 - sh)) cy : Nat)) := dep ⟨18, .data⟩ (by simp [oN2_22]) rfl (by decide) 68 rfl
  exact run_as (tmp_eval t18)
theorem hopN2 {a0 : Act} {w : World} {B ix nn cy sz sh fk : Nat} {sE sC : Nat → Nat → Nat → Nat} (E : EnvN2 a0 w B ix nn cy sz sh fk sE sC) : ∀ (i : Nat) (o : Oper) (a : Act) (x : World), opsN2[i]? = some o → i ≠ 21 → (x = w.drew ∨ (x = w.drew.setCell ⟨B, ix + 1, none⟩ (.int .u64 (sE nn (sz / 2 ^ (64 - sh)) cy : Nat)) ∧ waits opsN2 21 i = false)) → (∀ j, (∀ k, dstOf opsN2 k ≠ some j) → a.tmps[j]? = a0.tmps[j]?) → (∀ e ∈ o.after, Region.binds .any e = true → e.on ≠ 21 → ∀ t, dstOf opsN2 e.on = some t → a.tmps[t]? = some (vN2 B ix nn cy sz sh fk sE sC e.on)) → (∀ j t, waits opsN2 j i = true → dstOf opsN2 j = some t → a.tmps[t]? = a0.tmps[t]?) → ∃ t, o.dst = some t ∧ (execOp a.eval o).run Tryd.prog x = .ok (.value (vN2 B ix nn cy sz sh fk sE sC i)) x
  | 0, o, a, x, ho, hi, hx, oth, dep, fr => by
    have e1 : oN2_0 = o := Option.some.inj ho
    subst e1
    exact ⟨51, rfl, yN2_0 E hx oth dep fr⟩
  | 1, o, a, x, ho, hi, hx, oth, dep, fr => by
    have e1 : oN2_1 = o := Option.some.inj ho
    subst e1
    exact ⟨52, rfl, yN2_1 E hx oth dep fr⟩
  | 2, o, a, x, ho, hi, hx, oth, dep, fr => by
    have e1 : oN2_2 = o := Option.some.inj ho
    subst e1
    exact ⟨53, rfl, yN2_2 E hx oth dep fr⟩
  | 3, o, a, x, ho, hi, hx, oth, dep, fr => by
    have e1 : oN2_3 = o := Option.some.inj ho
    subst e1
    exact ⟨54, rfl, yN2_3 E hx oth dep fr⟩
  | 4, o, a, x, ho, hi, hx, oth, dep, fr => by
    have e1 : oN2_4 = o := Option.some.inj ho
    subst e1
    exact ⟨55, rfl, yN2_4 E hx oth dep fr⟩
  | 5, o, a, x, ho, hi, hx, oth, dep, fr => by
    have e1 : oN2_5 = o := Option.some.inj ho
    subst e1
    exact ⟨56, rfl, yN2_5 E hx oth dep fr⟩
  | 6, o, a, x, ho, hi, hx, oth, dep, fr => by
    have e1 : oN2_6 = o := Option.some.inj ho
    subst e1
    exact ⟨57, rfl, yN2_6 E hx oth dep fr⟩
  | 7, o, a, x, ho, hi, hx, oth, dep, fr => by
    have e1 : oN2_7 = o := Option.some.inj ho
    subst e1
    exact ⟨58, rfl, yN2_7 E hx oth dep fr⟩
  | 8, o, a, x, ho, hi, hx, oth, dep, fr => by
    have e1 : oN2_8 = o := Option.some.inj ho
    subst e1
    exact ⟨59, rfl, yN2_8 E hx oth dep fr⟩
  | 9, o, a, x, ho, hi, hx, oth, dep, fr => by
    have e1 : oN2_9 = o := Option.some.inj ho
    subst e1
    exact ⟨60, rfl, yN2_9 E hx oth dep fr⟩
  | 10, o, a, x, ho, hi, hx, oth, dep, fr => by
    have e1 : oN2_10 = o := Option.some.inj ho
    subst e1
    exact ⟨61, rfl, yN2_10 E hx oth dep fr⟩
  | 11, o, a, x, ho, hi, hx, oth, dep, fr => by
    have e1 : oN2_11 = o := Option.some.inj ho
    subst e1
    exact ⟨62, rfl, yN2_11 E hx oth dep fr⟩
  | 12, o, a, x, ho, hi, hx, oth, dep, fr => by
    have e1 : oN2_12 = o := Option.some.inj ho
    subst e1
    exact ⟨63, rfl, yN2_12 E hx oth dep fr⟩
  | 13, o, a, x, ho, hi, hx, oth, dep, fr => by
    have e1 : oN2_13 = o := Option.some.inj ho
    subst e1
    exact ⟨64, rfl, yN2_13 E hx oth dep fr⟩
  | 14, o, a, x, ho, hi, hx, oth, dep, fr => by
    have e1 : oN2_14 = o := Option.some.inj ho
    subst e1
    exact ⟨65, rfl, yN2_14 E hx oth dep fr⟩
  | 15, o, a, x, ho, hi, hx, oth, dep, fr => by
    have e1 : oN2_15 = o := Option.some.inj ho
    subst e1
    exact ⟨66, rfl, yN2_15 E hx oth dep fr⟩
  | 16, o, a, x, ho, hi, hx, oth, dep, fr => by
    have e1 : oN2_16 = o := Option.some.inj ho
    subst e1
    exact ⟨50, rfl, yN2_16 E hx oth dep fr⟩
  | 17, o, a, x, ho, hi, hx, oth, dep, fr => by
    have e1 : oN2_17 = o := Option.some.inj ho
    subst e1
    exact ⟨67, rfl, yN2_17 E hx oth dep fr⟩
  | 18, o, a, x, ho, hi, hx, oth, dep, fr => by
    have e1 : oN2_18 = o := Option.some.inj ho
    subst e1
    exact ⟨68, rfl, yN2_18 E hx oth dep fr⟩
  | 19, o, a, x, ho, hi, hx, oth, dep, fr => by
    have e1 : oN2_19 = o := Option.some.inj ho
    subst e1
    exact ⟨69, rfl, yN2_19 E hx oth dep fr⟩
  | 20, o, a, x, ho, hi, hx, oth, dep, fr => by
    have e1 : oN2_20 = o := Option.some.inj ho
    subst e1
    exact ⟨70, rfl, yN2_20 E hx oth dep fr⟩
  | 21, o, a, x, ho, hi, hx, oth, dep, fr => absurd rfl hi
  | 22, o, a, x, ho, hi, hx, oth, dep, fr => by
    have e1 : oN2_22 = o := Option.some.inj ho
    subst e1
    exact ⟨10, rfl, yN2_22 E hx oth dep fr⟩
  | i + 23, o, a, x, ho, hi, hx, oth, dep, fr => by cases ho
theorem gdN2 : ∀ (i : Nat) (o : Oper), opsN2[i]? = some o → o.guard = none := by
  intro i o ho
  rcases i with _ | _ | _ | _ | _ | _ | _ | _ | _ | _ | _ | _ | _ | _ | _ | _ | _ | _ | _ | _ | _ | _ | _ | i
  · have e := Option.some.inj ho; subst e; rfl
  · have e := Option.some.inj ho; subst e; rfl
  · have e := Option.some.inj ho; subst e; rfl
  · have e := Option.some.inj ho; subst e; rfl
  · have e := Option.some.inj ho; subst e; rfl
  · have e := Option.some.inj ho; subst e; rfl
  · have e := Option.some.inj ho; subst e; rfl
  · have e := Option.some.inj ho; subst e; rfl
  · have e := Option.some.inj ho; subst e; rfl
  · have e := Option.some.inj ho; subst e; rfl
  · have e := Option.some.inj ho; subst e; rfl
  · have e := Option.some.inj ho; subst e; rfl
  · have e := Option.some.inj ho; subst e; rfl
  · have e := Option.some.inj ho; subst e; rfl
  · have e := Option.some.inj ho; subst e; rfl
  · have e := Option.some.inj ho; subst e; rfl
  · have e := Option.some.inj ho; subst e; rfl
  · have e := Option.some.inj ho; subst e; rfl
  · have e := Option.some.inj ho; subst e; rfl
  · have e := Option.some.inj ho; subst e; rfl
  · have e := Option.some.inj ho; subst e; rfl
  · have e := Option.some.inj ho; subst e; rfl
  · have e := Option.some.inj ho; subst e; rfl
  · cases ho
theorem regionN2 {id : Nat} {l : List Oper} {R : Exit → Act → World → Prop} {a0 : Act} {w : World} {B ix nn cy sz sh fk : Nat} {sE sC : Nat → Nat → Nat → Nat} (hl : l = opsN2) (hsz : a0.tmps.size = 96) (E : EnvN2 a0 w B ix nn cy sz sh fk sE sC)
    (hR : R .normal (putAll a0 [(51, .pointer (some ⟨B, 0, none⟩)), (52, .int .i64 (ix : Nat)), (53, .int .i64 ((ix + 1 : Nat) : Int)), (54, fnV fk), (55, .pointer (some ⟨B, 0, none⟩)), (56, .int .i64 (ix : Nat)), (57, .int .i64 ((ix + 1 : Nat) : Int)), (58, .pointer (some ⟨B, 0, none⟩)), (59, .pointer (some ⟨B, ix + 1, none⟩)), (60, .int .u64 (nn : Nat)), (61, .int .u64 (sz : Nat)), (62, .int .i64 (sh : Nat)), (63, .int .i64 ((64 - sh : Nat) : Int)), (64, .int .u64 ((sz / 2 ^ (64 - sh) : Nat) : Int)), (65, .int .u64 (cy : Nat)), (66, .tuple #[.int .u64 (sE nn (sz / 2 ^ (64 - sh)) cy : Nat), .int .u64 (sC nn (sz / 2 ^ (64 - sh)) cy : Nat)]), (50, .tuple #[.int .u64 (sE nn (sz / 2 ^ (64 - sh)) cy : Nat), .int .u64 (sC nn (sz / 2 ^ (64 - sh)) cy : Nat)]), (67, .int .u64 (sE nn (sz / 2 ^ (64 - sh)) cy : Nat)), (68, .int .u64 (sC nn (sz / 2 ^ (64 - sh)) cy : Nat)), (69, .pointer (some ⟨B, 0, none⟩)), (70, .pointer (some ⟨B, ix + 1, none⟩)), (10, .int .u64 (sC nn (sz / 2 ^ (64 - sh)) cy : Nat))]) (w.drew.setCell ⟨B, ix + 1, none⟩ (.int .u64 (sE nn (sz / 2 ^ (64 - sh)) cy : Nat)))) :
    (Code.region id l.toArray true).wp Tryd.prog R a0 w := by
  subst hl
  refine wp_region_vals (vN2 B ix nn cy sz sh fk sE sC) 21 (w.drew.setCell ⟨B, ix + 1, none⟩ (.int .u64 (sE nn (sz / 2 ^ (64 - sh)) cy : Nat))) (by kernel_rfl) (by decide +kernel) (fun i t h => ?_) ⟨oN2_21, rfl, rfl⟩ gdN2 (hopN2 E) (fun o a ho oth dep => ?_) (fun a size defers other vals => ?_)
  · rw [hsz]
    exact (by decide : ∀ t ∈ [10, 50, 51, 52, 53, 54, 55, 56, 57, 58, 59, 60, 61, 62, 63, 64, 65, 66, 67, 68, 69, 70], t < 96) t (dstN2 h)
  · have e1 : oN2_21 = o := Option.some.inj ho
    subst e1
    exact yN2_21 E oth dep
  · have hA := act_puts (a := a) (a0 := a0) [(51, .pointer (some ⟨B, 0, none⟩)), (52, .int .i64 (ix : Nat)), (53, .int .i64 ((ix + 1 : Nat) : Int)), (54, fnV fk), (55, .pointer (some ⟨B, 0, none⟩)), (56, .int .i64 (ix : Nat)), (57, .int .i64 ((ix + 1 : Nat) : Int)), (58, .pointer (some ⟨B, 0, none⟩)), (59, .pointer (some ⟨B, ix + 1, none⟩)), (60, .int .u64 (nn : Nat)), (61, .int .u64 (sz : Nat)), (62, .int .i64 (sh : Nat)), (63, .int .i64 ((64 - sh : Nat) : Int)), (64, .int .u64 ((sz / 2 ^ (64 - sh) : Nat) : Int)), (65, .int .u64 (cy : Nat)), (66, .tuple #[.int .u64 (sE nn (sz / 2 ^ (64 - sh)) cy : Nat), .int .u64 (sC nn (sz / 2 ^ (64 - sh)) cy : Nat)]), (50, .tuple #[.int .u64 (sE nn (sz / 2 ^ (64 - sh)) cy : Nat), .int .u64 (sC nn (sz / 2 ^ (64 - sh)) cy : Nat)]), (67, .int .u64 (sE nn (sz / 2 ^ (64 - sh)) cy : Nat)), (68, .int .u64 (sC nn (sz / 2 ^ (64 - sh)) cy : Nat)), (69, .pointer (some ⟨B, 0, none⟩)), (70, .pointer (some ⟨B, ix + 1, none⟩)), (10, .int .u64 (sC nn (sz / 2 ^ (64 - sh)) cy : Nat))] (by show [51, 52, 53, 54, 55, 56, 57, 58, 59, 60, 61, 62, 63, 64, 65, 66, 50, 67, 68, 69, 70, 10].Nodup; decide) size defers (fun j hj => other j (fun k' hk => hj ?_)) (fun r hr => ?_)
    · refine ⟨?_⟩
      rw [hA]
      exact hR
    · have hm : ∀ t ∈ [10, 50, 51, 52, 53, 54, 55, 56, 57, 58, 59, 60, 61, 62, 63, 64, 65, 66, 67, 68, 69, 70], t ∈ [51, 52, 53, 54, 55, 56, 57, 58, 59, 60, 61, 62, 63, 64, 65, 66, 50, 67, 68, 69, 70, 10] := by decide
      exact hm j (dstN2 hk)
    · simp only [List.mem_cons, List.not_mem_nil, or_false] at hr
      rcases hr with rfl | rfl | rfl | rfl | rfl | rfl | rfl | rfl | rfl | rfl | rfl | rfl | rfl | rfl | rfl | rfl | rfl | rfl | rfl | rfl | rfl | rfl
      · exact vals 0 51 rfl
      · exact vals 1 52 rfl
      · exact vals 2 53 rfl
      · exact vals 3 54 rfl
      · exact vals 4 55 rfl
      · exact vals 5 56 rfl
      · exact vals 6 57 rfl
      · exact vals 7 58 rfl
      · exact vals 8 59 rfl
      · exact vals 9 60 rfl
      · exact vals 10 61 rfl
      · exact vals 11 62 rfl
      · exact vals 12 63 rfl
      · exact vals 13 64 rfl
      · exact vals 14 65 rfl
      · exact vals 15 66 rfl
      · exact vals 16 50 rfl
      · exact vals 17 67 rfl
      · exact vals 18 68 rfl
      · exact vals 19 69 rfl
      · exact vals 20 70 rfl
      · exact vals 22 10 rfl
def oN3_0 : Oper := { dst := some 82, op := .move (.tmp 0), type := 94, pos := "number.go:39", after := #[], guard := none }
def oN3_1 : Oper := { dst := some 83, op := .move (.tmp 8), type := 3, pos := "number.go:39", after := #[], guard := none }
def oN3_2 : Oper := { dst := some 84, op := .move (.tmp 6), type := 95, pos := "number.go:39", after := #[], guard := none }
def oN3_3 : Oper := { dst := some 85, op := .move (.tmp 0), type := 94, pos := "number.go:39", after := #[], guard := none }
def oN3_4 : Oper := { dst := some 86, op := .move (.tmp 8), type := 3, pos := "number.go:39", after := #[], guard := none }
def oN3_5 : Oper := { dst := some 87, op := .nilCheck (.tmp 85), type := 0, pos := "number.go:39", after := #[⟨3, .data⟩], guard := none }
def oN3_6 : Oper := { dst := some 88, op := .indexAddr 66 (.tmp 87) (.tmp 86), type := 0, pos := "number.go:39", after := #[⟨5, .data⟩, ⟨4, .data⟩], guard := none }
def oN3_7 : Oper := { dst := some 89, op := .load 48 (.tmp 88), type := 48, pos := "number.go:39", after := #[⟨6, .data⟩], guard := none }
def oN3_8 : Oper := { dst := some 90, op := .move (.tmp 10), type := 48, pos := "number.go:39", after := #[], guard := none }
def oN3_9 : Oper := { dst := some 91, op := .call { callee := .value (.tmp 84), args := #[.tmp 89, .const (.int .u64 0), .tmp 90], argTypes := #[48, 48, 48] }, type := 96, pos := "number.go:39", after := #[⟨2, .data⟩, ⟨7, .data⟩, ⟨8, .data⟩], guard := none }
def oN3_10 : Oper := { dst := some 81, op := .move (.tmp 91), type := 96, pos := "number.go:39", after := #[⟨9, .data⟩], guard := none }
def oN3_11 : Oper := { dst := some 92, op := .extract (.tmp 81) 0, type := 48, pos := "number.go:39", after := #[⟨10, .data⟩], guard := none }
def oN3_12 : Oper := { dst := some 93, op := .extract (.tmp 81) 1, type := 48, pos := "number.go:39", after := #[⟨10, .data⟩, ⟨15, .gcOnly .lateStores⟩], guard := none }
def oN3_13 : Oper := { dst := some 94, op := .nilCheck (.tmp 82), type := 0, pos := "number.go:39", after := #[⟨0, .data⟩], guard := none }
def oN3_14 : Oper := { dst := some 95, op := .indexAddr 66 (.tmp 94) (.tmp 83), type := 0, pos := "number.go:39", after := #[⟨13, .data⟩, ⟨1, .data⟩, ⟨0, .phase⟩, ⟨1, .phase⟩, ⟨2, .phase⟩, ⟨3, .phase⟩, ⟨4, .phase⟩, ⟨5, .phase⟩, ⟨6, .phase⟩, ⟨7, .phase⟩, ⟨8, .phase⟩, ⟨9, .phase⟩, ⟨10, .phase⟩, ⟨11, .phase⟩, ⟨12, .textOnly .lateStores⟩], guard := none }
def oN3_15 : Oper := { dst := none, op := .store 48 (.tmp 95) (.tmp 92), type := 0, pos := "number.go:39", after := #[⟨14, .data⟩, ⟨11, .data⟩, ⟨9, .chain⟩, ⟨0, .phase⟩, ⟨1, .phase⟩, ⟨2, .phase⟩, ⟨3, .phase⟩, ⟨4, .phase⟩, ⟨5, .phase⟩, ⟨6, .phase⟩, ⟨7, .phase⟩, ⟨8, .phase⟩, ⟨9, .phase⟩, ⟨10, .phase⟩, ⟨11, .phase⟩, ⟨12, .textOnly .lateStores⟩], guard := none }
def oN3_16 : Oper := { dst := some 10, op := .assign (.tmp 93), type := 48, pos := "number.go:39", after := #[⟨12, .data⟩, ⟨15, .chain⟩, ⟨0, .phase⟩, ⟨1, .phase⟩, ⟨2, .phase⟩, ⟨3, .phase⟩, ⟨4, .phase⟩, ⟨5, .phase⟩, ⟨6, .phase⟩, ⟨7, .phase⟩, ⟨8, .phase⟩, ⟨9, .phase⟩, ⟨10, .phase⟩, ⟨11, .phase⟩, ⟨12, .phase⟩, ⟨13, .phase⟩, ⟨14, .phase⟩, ⟨15, .phase⟩], guard := none }
def opsN3 : List Oper := [oN3_0, oN3_1, oN3_2, oN3_3, oN3_4, oN3_5, oN3_6, oN3_7, oN3_8, oN3_9, oN3_10, oN3_11, oN3_12, oN3_13, oN3_14, oN3_15, oN3_16]
def vN3 (B ix nn cy fk : Nat) (sE sC : Nat → Nat → Nat → Nat) (i : Nat) : Value := ([.pointer (some ⟨B, 0, none⟩), .int .i64 (ix : Nat), fnV fk, .pointer (some ⟨B, 0, none⟩), .int .i64 (ix : Nat), .pointer (some ⟨B, 0, none⟩), .pointer (some ⟨B, ix, none⟩), .int .u64 (nn : Nat), .int .u64 (cy : Nat), .tuple #[.int .u64 (sE nn (0) cy : Nat), .int .u64 (sC nn (0) cy : Nat)], .tuple #[.int .u64 (sE nn (0) cy : Nat), .int .u64 (sC nn (0) cy : Nat)], .int .u64 (sE nn (0) cy : Nat), .int .u64 (sC nn (0) cy : Nat), .pointer (some ⟨B, 0, none⟩), .pointer (some ⟨B, ix, none⟩), undef, .int .u64 (sC nn (0) cy : Nat)] : List Value).getD i undef
structure EnvN3 (a0 : Act) (w : World) (B ix nn cy fk : Nat) (sE sC : Nat → Nat → Nat → Nat) : Prop where
  h0 : a0.tmps[0]? = some (.pointer (some ⟨B, 0, none⟩))
  h8 : a0.tmps[8]? = some (.int .i64 (ix : Nat))
  h6 : a0.tmps[6]? = some (fnV fk)
  h10 : a0.tmps[10]? = some (.int .u64 (cy : Nat))
  hs : Steps fk sE sC
  hc : cy ≤ 1
  hi : ix < 5
  c : w.drew.cell? ⟨B, ix, none⟩ = some (.int .u64 (nn : Nat))
  z : w.drew.frozen? ⟨B, ix, none⟩ = false
theorem dstN3 {k j : Nat} (h : dstOf opsN3 k = some j) : j ∈ [10, 81, 82, 83, 84, 85, 86, 87, 88, 89, 90, 91, 92, 93, 94, 95] := by
  rcases k with _ | _ | _ | _ | _ | _ | _ | _ | _ | _ | _ | _ | _ | _ | _ | _ | _ | k
  · have e := Option.some.inj h; subst e; decide
  · have e := Option.some.inj h; subst e; decide
  · have e := Option.some.inj h; subst e; decide
  · have e := Option.some.inj h; subst e; decide
  · have e := Option.some.inj h; subst e; decide
  · have e := Option.some.inj h; subst e; decide
  · have e := Option.some.inj h; subst e; decide
  · have e := Option.some.inj h; subst e; decide
  · have e := Option.some.inj h; subst e; decide
  · have e := Option.some.inj h; subst e; decide
  · have e := Option.some.inj h; subst e; decide
  · have e := Option.some.inj h; subst e; decide
  · have e := Option.some.inj h; subst e; decide
  · have e := Option.some.inj h; subst e; decide
  · have e := Option.some.inj h; subst e; decide
  · cases h
  · have e := Option.some.inj h; subst e; decide
  · cases h
theorem yN3_0 {a0 : Act} {w : World} {B ix nn cy fk : Nat} {sE sC : Nat → Nat → Nat → Nat} (E : EnvN3 a0 w B ix nn cy fk sE sC) {a : Act} {x : World} (hx : x = w.drew ∨ (x = w.drew.setCell ⟨B, ix, none⟩ (.int .u64 (sE nn (0) cy : Nat)) ∧ waits opsN3 15 0 = false)) (oth : ∀ j, (∀ k, dstOf opsN3 k ≠ some j) → a.tmps[j]? = a0.tmps[j]?) (dep : ∀ e ∈ oN3_0.after, Region.binds .any e = true → e.on ≠ 15 → ∀ t, dstOf opsN3 e.on = some t → a.tmps[t]? = some (vN3 B ix nn cy fk sE sC e.on)) (fr : ∀ j t, waits opsN3 j 0 = true → dstOf opsN3 j = some t → a.tmps[t]? = a0.tmps[t]?) : (execOp a.eval oN3_0).run Tryd.prog x = .ok (.value (vN3 B ix nn cy fk sE sC 0)) x := by
  exact run_mv (tmp_eval ((oth 0 (fun k h => absurd (dstN3 h) (by decide))).trans E.h0))
theorem yN3_1 {a0 : Act} {w : World} {B ix nn cy fk : Nat} {sE sC : Nat → Nat → Nat → Nat} (E : EnvN3 a0 w B ix nn cy fk sE sC) {a : Act} {x : World} (hx : x = w.drew ∨ (x = w.drew.setCell ⟨B, ix, none⟩ (.int .u64 (sE nn (0) cy : Nat)) ∧ waits opsN3 15 1 = false)) (oth : ∀ j, (∀ k, dstOf opsN3 k ≠ some j) → a.tmps[j]? = a0.tmps[j]?) (dep : ∀ e ∈ oN3_1.after, Region.binds .any e = true → e.on ≠ 15 → ∀ t, dstOf opsN3 e.on = some t → a.tmps[t]? = some (vN3 B ix nn cy fk sE sC e.on)) (fr : ∀ j t, waits opsN3 j 1 = true → dstOf opsN3 j = some t → a.tmps[t]? = a0.tmps[t]?) : (execOp a.eval oN3_1).run Tryd.prog x = .ok (.value (vN3 B ix nn cy fk sE sC 1)) x := by
  exact run_mv (tmp_eval ((oth 8 (fun k h => absurd (dstN3 h) (by decide))).trans E.h8))
theorem yN3_2 {a0 : Act} {w : World} {B ix nn cy fk : Nat} {sE sC : Nat → Nat → Nat → Nat} (E : EnvN3 a0 w B ix nn cy fk sE sC) {a : Act} {x : World} (hx : x = w.drew ∨ (x = w.drew.setCell ⟨B, ix, none⟩ (.int .u64 (sE nn (0) cy : Nat)) ∧ waits opsN3 15 2 = false)) (oth : ∀ j, (∀ k, dstOf opsN3 k ≠ some j) → a.tmps[j]? = a0.tmps[j]?) (dep : ∀ e ∈ oN3_2.after, Region.binds .any e = true → e.on ≠ 15 → ∀ t, dstOf opsN3 e.on = some t → a.tmps[t]? = some (vN3 B ix nn cy fk sE sC e.on)) (fr : ∀ j t, waits opsN3 j 2 = true → dstOf opsN3 j = some t → a.tmps[t]? = a0.tmps[t]?) : (execOp a.eval oN3_2).run Tryd.prog x = .ok (.value (vN3 B ix nn cy fk sE sC 2)) x := by
  exact run_mv (tmp_eval ((oth 6 (fun k h => absurd (dstN3 h) (by decide))).trans E.h6))
theorem yN3_3 {a0 : Act} {w : World} {B ix nn cy fk : Nat} {sE sC : Nat → Nat → Nat → Nat} (E : EnvN3 a0 w B ix nn cy fk sE sC) {a : Act} {x : World} (hx : x = w.drew ∨ (x = w.drew.setCell ⟨B, ix, none⟩ (.int .u64 (sE nn (0) cy : Nat)) ∧ waits opsN3 15 3 = false)) (oth : ∀ j, (∀ k, dstOf opsN3 k ≠ some j) → a.tmps[j]? = a0.tmps[j]?) (dep : ∀ e ∈ oN3_3.after, Region.binds .any e = true → e.on ≠ 15 → ∀ t, dstOf opsN3 e.on = some t → a.tmps[t]? = some (vN3 B ix nn cy fk sE sC e.on)) (fr : ∀ j t, waits opsN3 j 3 = true → dstOf opsN3 j = some t → a.tmps[t]? = a0.tmps[t]?) : (execOp a.eval oN3_3).run Tryd.prog x = .ok (.value (vN3 B ix nn cy fk sE sC 3)) x := by
  exact run_mv (tmp_eval ((oth 0 (fun k h => absurd (dstN3 h) (by decide))).trans E.h0))
theorem yN3_4 {a0 : Act} {w : World} {B ix nn cy fk : Nat} {sE sC : Nat → Nat → Nat → Nat} (E : EnvN3 a0 w B ix nn cy fk sE sC) {a : Act} {x : World} (hx : x = w.drew ∨ (x = w.drew.setCell ⟨B, ix, none⟩ (.int .u64 (sE nn (0) cy : Nat)) ∧ waits opsN3 15 4 = false)) (oth : ∀ j, (∀ k, dstOf opsN3 k ≠ some j) → a.tmps[j]? = a0.tmps[j]?) (dep : ∀ e ∈ oN3_4.after, Region.binds .any e = true → e.on ≠ 15 → ∀ t, dstOf opsN3 e.on = some t → a.tmps[t]? = some (vN3 B ix nn cy fk sE sC e.on)) (fr : ∀ j t, waits opsN3 j 4 = true → dstOf opsN3 j = some t → a.tmps[t]? = a0.tmps[t]?) : (execOp a.eval oN3_4).run Tryd.prog x = .ok (.value (vN3 B ix nn cy fk sE sC 4)) x := by
  exact run_mv (tmp_eval ((oth 8 (fun k h => absurd (dstN3 h) (by decide))).trans E.h8))
theorem yN3_5 {a0 : Act} {w : World} {B ix nn cy fk : Nat} {sE sC : Nat → Nat → Nat → Nat} (E : EnvN3 a0 w B ix nn cy fk sE sC) {a : Act} {x : World} (hx : x = w.drew ∨ (x = w.drew.setCell ⟨B, ix, none⟩ (.int .u64 (sE nn (0) cy : Nat)) ∧ waits opsN3 15 5 = false)) (oth : ∀ j, (∀ k, dstOf opsN3 k ≠ some j) → a.tmps[j]? = a0.tmps[j]?) (dep : ∀ e ∈ oN3_5.after, Region.binds .any e = true → e.on ≠ 15 → ∀ t, dstOf opsN3 e.on = some t → a.tmps[t]? = some (vN3 B ix nn cy fk sE sC e.on)) (fr : ∀ j t, waits opsN3 j 5 = true → dstOf opsN3 j = some t → a.tmps[t]? = a0.tmps[t]?) : (execOp a.eval oN3_5).run Tryd.prog x = .ok (.value (vN3 B ix nn cy fk sE sC 5)) x := by
  have t3 : a.tmps[85]? = some (.pointer (some ⟨B, 0, none⟩)) := dep ⟨3, .data⟩ (by simp [oN3_5]) rfl (by decide) 85 rfl
  exact run_nck (tmp_eval t3)
theorem yN3_6 {a0 : Act} {w : World} {B ix nn cy fk : Nat} {sE sC : Nat → Nat → Nat → Nat} (E : EnvN3 a0 w B ix nn cy fk sE sC) {a : Act} {x : World} (hx : x = w.drew ∨ (x = w.drew.setCell ⟨B, ix, none⟩ (.int .u64 (sE nn (0) cy : Nat)) ∧ waits opsN3 15 6 = false)) (oth : ∀ j, (∀ k, dstOf opsN3 k ≠ some j) → a.tmps[j]? = a0.tmps[j]?) (dep : ∀ e ∈ oN3_6.after, Region.binds .any e = true → e.on ≠ 15 → ∀ t, dstOf opsN3 e.on = some t → a.tmps[t]? = some (vN3 B ix nn cy fk sE sC e.on)) (fr : ∀ j t, waits opsN3 j 6 = true → dstOf opsN3 j = some t → a.tmps[t]? = a0.tmps[t]?) : (execOp a.eval oN3_6).run Tryd.prog x = .ok (.value (vN3 B ix nn cy fk sE sC 6)) x := by
  have t5 : a.tmps[87]? = some (.pointer (some ⟨B, 0, none⟩)) := dep ⟨5, .data⟩ (by simp [oN3_6]) rfl (by decide) 87 rfl
  have t4 : a.tmps[86]? = some (.int .i64 (ix : Nat)) := dep ⟨4, .data⟩ (by simp [oN3_6]) rfl (by decide) 86 rfl
  exact run_word (tmp_eval t5) (tmp_eval t4) E.hi
theorem yN3_7 {a0 : Act} {w : World} {B ix nn cy fk : Nat} {sE sC : Nat → Nat → Nat → Nat} (E : EnvN3 a0 w B ix nn cy fk sE sC) {a : Act} {x : World} (hx : x = w.drew ∨ (x = w.drew.setCell ⟨B, ix, none⟩ (.int .u64 (sE nn (0) cy : Nat)) ∧ waits opsN3 15 7 = false)) (oth : ∀ j, (∀ k, dstOf opsN3 k ≠ some j) → a.tmps[j]? = a0.tmps[j]?) (dep : ∀ e ∈ oN3_7.after, Region.binds .any e = true → e.on ≠ 15 → ∀ t, dstOf opsN3 e.on = some t → a.tmps[t]? = some (vN3 B ix nn cy fk sE sC e.on)) (fr : ∀ j t, waits opsN3 j 7 = true → dstOf opsN3 j = some t → a.tmps[t]? = a0.tmps[t]?) : (execOp a.eval oN3_7).run Tryd.prog x = .ok (.value (vN3 B ix nn cy fk sE sC 7)) x := by
  have t6 : a.tmps[88]? = some (.pointer (some ⟨B, ix, none⟩)) := dep ⟨6, .data⟩ (by simp [oN3_7]) rfl (by decide) 88 rfl
  rcases hx with rfl | ⟨_, hx⟩
  · exact run_u64 (tmp_eval t6) E.c
  · exact absurd hx (by decide +kernel)
theorem yN3_8 {a0 : Act} {w : World} {B ix nn cy fk : Nat} {sE sC : Nat → Nat → Nat → Nat} (E : EnvN3 a0 w B ix nn cy fk sE sC) {a : Act} {x : World} (hx : x = w.drew ∨ (x = w.drew.setCell ⟨B, ix, none⟩ (.int .u64 (sE nn (0) cy : Nat)) ∧ waits opsN3 15 8 = false)) (oth : ∀ j, (∀ k, dstOf opsN3 k ≠ some j) → a.tmps[j]? = a0.tmps[j]?) (dep : ∀ e ∈ oN3_8.after, Region.binds .any e = true → e.on ≠ 15 → ∀ t, dstOf opsN3 e.on = some t → a.tmps[t]? = some (vN3 B ix nn cy fk sE sC e.on)) (fr : ∀ j t, waits opsN3 j 8 = true → dstOf opsN3 j = some t → a.tmps[t]? = a0.tmps[t]?) : (execOp a.eval oN3_8).run Tryd.prog x = .ok (.value (vN3 B ix nn cy fk sE sC 8)) x := by
  exact run_mv (tmp_eval ((fr 16 10 (by decide +kernel) rfl).trans E.h10))
theorem yN3_9 {a0 : Act} {w : World} {B ix nn cy fk : Nat} {sE sC : Nat → Nat → Nat → Nat} (E : EnvN3 a0 w B ix nn cy fk sE sC) {a : Act} {x : World} (hx : x = w.drew ∨ (x = w.drew.setCell ⟨B, ix, none⟩ (.int .u64 (sE nn (0) cy : Nat)) ∧ waits opsN3 15 9 = false)) (oth : ∀ j, (∀ k, dstOf opsN3 k ≠ some j) → a.tmps[j]? = a0.tmps[j]?) (dep : ∀ e ∈ oN3_9.after, Region.binds .any e = true → e.on ≠ 15 → ∀ t, dstOf opsN3 e.on = some t → a.tmps[t]? = some (vN3 B ix nn cy fk sE sC e.on)) (fr : ∀ j t, waits opsN3 j 9 = true → dstOf opsN3 j = some t → a.tmps[t]? = a0.tmps[t]?) : (execOp a.eval oN3_9).run Tryd.prog x = .ok (.value (vN3 B ix nn cy fk sE sC 9)) x := by
  have t2 : a.tmps[84]? = some (fnV fk) := dep ⟨2, .data⟩ (by simp [oN3_9]) rfl (by decide) 84 rfl
  have t7 : a.tmps[89]? = some (.int .u64 (nn : Nat)) := dep ⟨7, .data⟩ (by simp [oN3_9]) rfl (by decide) 89 rfl
  have t8 : a.tmps[90]? = some (.int .u64 (cy : Nat)) := dep ⟨8, .data⟩ (by simp [oN3_9]) rfl (by decide) 90 rfl
  exact run_step0 E.hs (tmp_eval t2) (tmp_eval t7) (tmp_eval t8) E.hc
theorem yN3_10 {a0 : Act} {w : World} {B ix nn cy fk : Nat} {sE sC : Nat → Nat → Nat → Nat} (E : EnvN3 a0 w B ix nn cy fk sE sC) {a : Act} {x : World} (hx : x = w.drew ∨ (x = w.drew.setCell ⟨B, ix, none⟩ (.int .u64 (sE nn (0) cy : Nat)) ∧ waits opsN3 15 10 = false)) (oth : ∀ j, (∀ k, dstOf opsN3 k ≠ some j) → a.tmps[j]? = a0.tmps[j]?) (dep : ∀ e ∈ oN3_10.after, Region.binds .any e = true → e.on ≠ 15 → ∀ t, dstOf opsN3 e.on = some t → a.tmps[t]? = some (vN3 B ix nn cy fk sE sC e.on)) (fr : ∀ j t, waits opsN3 j 10 = true → dstOf opsN3 j = some t → a.tmps[t]? = a0.tmps[t]?) : (execOp a.eval oN3_10).run Tryd.prog x = .ok (.value (vN3 B ix nn cy fk sE sC 10)) x := by
  have t9 : a.tmps[91]? = some (.tuple #[.int .u64 (sE nn (0) cy : Nat), .int .u64 (sC nn (0) cy : Nat)]) := dep ⟨9, .data⟩ (by simp [oN3_10]) rfl (by decide) 91 rfl
  exact run_mv (tmp_eval t9)
theorem yN3_11 {a0 : Act} {w : World} {B ix nn cy fk : Nat} {sE sC : Nat → Nat → Nat → Nat} (E : EnvN3 a0 w B ix nn cy fk sE sC) {a : Act} {x : World} (hx : x = w.drew ∨ (x = w.drew.setCell ⟨B, ix, none⟩ (.int .u64 (sE nn (0) cy : Nat)) ∧ waits opsN3 15 11 = false)) (oth : ∀ j, (∀ k, dstOf opsN3 k ≠ some j) → a.tmps[j]? = a0.tmps[j]?) (dep : ∀ e ∈ oN3_11.after, Region.binds .any e = true → e.on ≠ 15 → ∀ t, dstOf opsN3 e.on = some t → a.tmps[t]? = some (vN3 B ix nn cy fk sE sC e.on)) (fr : ∀ j t, waits opsN3 j 11 = true → dstOf opsN3 j = some t → a.tmps[t]? = a0.tmps[t]?) : (execOp a.eval oN3_11).run Tryd.prog x = .ok (.value (vN3 B ix nn cy fk sE sC 11)) x := by
  have t10 : a.tmps[81]? = some (.tuple #[.int .u64 (sE nn (0) cy : Nat), .int .u64 (sC nn (0) cy : Nat)]) := dep ⟨10, .data⟩ (by simp [oN3_11]) rfl (by decide) 81 rfl
  exact run_ex0 (tmp_eval t10)
theorem yN3_12 {a0 : Act} {w : World} {B ix nn cy fk : Nat} {sE sC : Nat → Nat → Nat → Nat} (E : EnvN3 a0 w B ix nn cy fk sE sC) {a : Act} {x : World} (hx : x = w.drew ∨ (x = w.drew.setCell ⟨B, ix, none⟩ (.int .u64 (sE nn (0) cy : Nat)) ∧ waits opsN3 15 12 = false)) (oth : ∀ j, (∀ k, dstOf opsN3 k ≠ some j) → a.tmps[j]? = a0.tmps[j]?) (dep : ∀ e ∈ oN3_12.after, Region.binds .any e = true → e.on ≠ 15 → ∀ t, dstOf opsN3 e.on = some t → a.tmps[t]? = some (vN3 B ix nn cy fk sE sC e.on)) (fr : ∀ j t, waits opsN3 j 12 = true → dstOf opsN3 j = some t → a.tmps[t]? = a0.tmps[t]?) : (execOp a.eval oN3_12).run Tryd.prog x = .ok (.value (vN3 B ix nn cy fk sE sC 12)) x := by
  have t10 : a.tmps[81]? = some (.tuple #[.int .u64 (sE nn (0) cy : Nat), .int .u64 (sC nn (0) cy : Nat)]) := dep ⟨10, .data⟩ (by simp [oN3_12]) rfl (by decide) 81 rfl
  exact run_ex1 (tmp_eval t10)
theorem yN3_13 {a0 : Act} {w : World} {B ix nn cy fk : Nat} {sE sC : Nat → Nat → Nat → Nat} (E : EnvN3 a0 w B ix nn cy fk sE sC) {a : Act} {x : World} (hx : x = w.drew ∨ (x = w.drew.setCell ⟨B, ix, none⟩ (.int .u64 (sE nn (0) cy : Nat)) ∧ waits opsN3 15 13 = false)) (oth : ∀ j, (∀ k, dstOf opsN3 k ≠ some j) → a.tmps[j]? = a0.tmps[j]?) (dep : ∀ e ∈ oN3_13.after, Region.binds .any e = true → e.on ≠ 15 → ∀ t, dstOf opsN3 e.on = some t → a.tmps[t]? = some (vN3 B ix nn cy fk sE sC e.on)) (fr : ∀ j t, waits opsN3 j 13 = true → dstOf opsN3 j = some t → a.tmps[t]? = a0.tmps[t]?) : (execOp a.eval oN3_13).run Tryd.prog x = .ok (.value (vN3 B ix nn cy fk sE sC 13)) x := by
  have t0 : a.tmps[82]? = some (.pointer (some ⟨B, 0, none⟩)) := dep ⟨0, .data⟩ (by simp [oN3_13]) rfl (by decide) 82 rfl
  exact run_nck (tmp_eval t0)
theorem yN3_14 {a0 : Act} {w : World} {B ix nn cy fk : Nat} {sE sC : Nat → Nat → Nat → Nat} (E : EnvN3 a0 w B ix nn cy fk sE sC) {a : Act} {x : World} (hx : x = w.drew ∨ (x = w.drew.setCell ⟨B, ix, none⟩ (.int .u64 (sE nn (0) cy : Nat)) ∧ waits opsN3 15 14 = false)) (oth : ∀ j, (∀ k, dstOf opsN3 k ≠ some j) → a.tmps[j]? = a0.tmps[j]?) (dep : ∀ e ∈ oN3_14.after, Region.binds .any e = true → e.on ≠ 15 → ∀ t, dstOf opsN3 e.on = some t → a.tmps[t]? = some (vN3 B ix nn cy fk sE sC e.on)) (fr : ∀ j t, waits opsN3 j 14 = true → dstOf opsN3 j = some t → a.tmps[t]? = a0.tmps[t]?) : (execOp a.eval oN3_14).run Tryd.prog x = .ok (.value (vN3 B ix nn cy fk sE sC 14)) x := by
  have t13 : a.tmps[94]? = some (.pointer (some ⟨B, 0, none⟩)) := dep ⟨13, .data⟩ (by simp [oN3_14]) rfl (by decide) 94 rfl
  have t1 : a.tmps[83]? = some (.int .i64 (ix : Nat)) := dep ⟨1, .data⟩ (by simp [oN3_14]) rfl (by decide) 83 rfl
  exact run_word (tmp_eval t13) (tmp_eval t1) E.hi
theorem yN3_15 {a0 : Act} {w : World} {B ix nn cy fk : Nat} {sE sC : Nat → Nat → Nat → Nat} (E : EnvN3 a0 w B ix nn cy fk sE sC) {a : Act} (oth : ∀ j, (∀ k, dstOf opsN3 k ≠ some j) → a.tmps[j]? = a0.tmps[j]?) (dep : ∀ e ∈ oN3_15.after, Region.binds .any e = true → e.on ≠ 15 → ∀ t, dstOf opsN3 e.on = some t → a.tmps[t]? = some (vN3 B ix nn cy fk sE sC e.on)) : (execOp a.eval oN3_15).run Tryd.prog w.drew = .ok .skip (w.drew.setCell ⟨B, ix, none⟩ (.int .u64 (sE nn (0) cy : Nat))) := by
  have t14 : a.tmps[95]? = some (.pointer (some ⟨B, ix, none⟩)) := dep ⟨14, .data⟩ (by simp [oN3_15]) rfl (by decide) 95 rfl
  have t11 : a.tmps[92]? = some (.int .u64 (sE nn (0) cy : Nat)) := dep ⟨11, .data⟩ (by simp [oN3_15]) rfl (by decide) 92 rfl
  exact run_put (tmp_eval t14) (tmp_eval t11) E.c E.z
theorem yN3_16 {a0 : Act} {w : World} {B ix nn cy fk : Nat} {sE sC : Nat → Nat → Nat → Nat} (E : EnvN3 a0 w B ix nn cy fk sE sC) {a : Act} {x : World} (hx : x = w.drew ∨ (x = w.drew.setCell ⟨B, ix, none⟩ (.int .u64 (sE nn (0) cy : Nat)) ∧ waits opsN3 15 16 = false)) (oth : ∀ j, (∀ k, dstOf opsN3 k ≠ some j) → a.tmps[j]? = a0.tmps[j]?) (dep : ∀ e ∈ oN3_16.after, Region.binds .any e = true → e.on ≠ 15 → ∀ t, dstOf opsN3 e.on = some t → a.tmps[t]? = some (vN3 B ix nn cy fk sE sC e.on)) (fr : ∀ j t, waits opsN3 j 16 = true → dstOf opsN3 j = some t → a.tmps[t]? = a0.tmps[t]?) : (execOp a.eval oN3_16).run Tryd.prog x = .ok (.value (vN3 B ix nn cy fk sE sC 16)) x := by
  have t12 : a.tmps[93]? = some (.int .u64 (sC nn (0) cy : Nat)) := dep ⟨12, .data⟩ (by simp [oN3_16]) rfl (by decide) 93 rfl
  exact run_as (tmp_eval t12)
theorem hopN3 {a0 : Act} {w : World} {B ix nn cy fk : Nat} {sE sC : Nat → Nat → Nat → Nat} (E : EnvN3 a0 w B ix nn cy fk sE sC) : ∀ (i : Nat) (o : Oper) (a : Act) (x : World), opsN3[i]? = some o → i ≠ 15 → (x = w.drew ∨ (x = w.drew.setCell ⟨B, ix, none⟩ (.int .u64 (sE nn (0) cy : Nat)) ∧ waits opsN3 15 i = false)) → (∀ j, (∀ k, dstOf opsN3 k ≠ some j) → a.tmps[j]? = a0.tmps[j]?) → (∀ e ∈ o.after, Region.binds .any e = true → e.on ≠ 15 → ∀ t, dstOf opsN3 e.on = some t → a.tmps[t]? = some (vN3 B ix nn cy fk sE sC e.on)) → (∀ j t, waits opsN3 j i = true → dstOf opsN3 j = some t → a.tmps[t]? = a0.tmps[t]?) → ∃ t, o.dst = some t ∧ (execOp a.eval o).run Tryd.prog x = .ok (.value (vN3 B ix nn cy fk sE sC i)) x
  | 0, o, a, x, ho, hi, hx, oth, dep, fr => by
    have e1 : oN3_0 = o := Option.some.inj ho
    subst e1
    exact ⟨82, rfl, yN3_0 E hx oth dep fr⟩
  | 1, o, a, x, ho, hi, hx, oth, dep, fr => by
    have e1 : oN3_1 = o := Option.some.inj ho
    subst e1
    exact ⟨83, rfl, yN3_1 E hx oth dep fr⟩
  | 2, o, a, x, ho, hi, hx, oth, dep, fr => by
    have e1 : oN3_2 = o := Option.some.inj ho
    subst e1
    exact ⟨84, rfl, yN3_2 E hx oth dep fr⟩
  | 3, o, a, x, ho, hi, hx, oth, dep, fr => by
    have e1 : oN3_3 = o := Option.some.inj ho
    subst e1
    exact ⟨85, rfl, yN3_3 E hx oth dep fr⟩
  | 4, o, a, x, ho, hi, hx, oth, dep, fr => by
    have e1 : oN3_4 = o := Option.some.inj ho
    subst e1
    exact ⟨86, rfl, yN3_4 E hx oth dep fr⟩
  | 5, o, a, x, ho, hi, hx, oth, dep, fr => by
    have e1 : oN3_5 = o := Option.some.inj ho
    subst e1
    exact ⟨87, rfl, yN3_5 E hx oth dep fr⟩
  | 6, o, a, x, ho, hi, hx, oth, dep, fr => by
    have e1 : oN3_6 = o := Option.some.inj ho
    subst e1
    exact ⟨88, rfl, yN3_6 E hx oth dep fr⟩
  | 7, o, a, x, ho, hi, hx, oth, dep, fr => by
    have e1 : oN3_7 = o := Option.some.inj ho
    subst e1
    exact ⟨89, rfl, yN3_7 E hx oth dep fr⟩
  | 8, o, a, x, ho, hi, hx, oth, dep, fr => by
    have e1 : oN3_8 = o := Option.some.inj ho
    subst e1
    exact ⟨90, rfl, yN3_8 E hx oth dep fr⟩
  | 9, o, a, x, ho, hi, hx, oth, dep, fr => by
    have e1 : oN3_9 = o := Option.some.inj ho
    subst e1
    exact ⟨91, rfl, yN3_9 E hx oth dep fr⟩
  | 10, o, a, x, ho, hi, hx, oth, dep, fr => by
    have e1 : oN3_10 = o := Option.some.inj ho
    subst e1
    exact ⟨81, rfl, yN3_10 E hx oth dep fr⟩
  | 11, o, a, x, ho, hi, hx, oth, dep, fr => by
    have e1 : oN3_11 = o := Option.some.inj ho
    subst e1
    exact ⟨92, rfl, yN3_11 E hx oth dep fr⟩
  | 12, o, a, x, ho, hi, hx, oth, dep, fr => by
    have e1 : oN3_12 = o := Option.some.inj ho
    subst e1
    exact ⟨93, rfl, yN3_12 E hx oth dep fr⟩
  | 13, o, a, x, ho, hi, hx, oth, dep, fr => by
    have e1 : oN3_13 = o := Option.some.inj ho
    subst e1
    exact ⟨94, rfl, yN3_13 E hx oth dep fr⟩
  | 14, o, a, x, ho, hi, hx, oth, dep, fr => by
    have e1 : oN3_14 = o := Option.some.inj ho
    subst e1
    exact ⟨95, rfl, yN3_14 E hx oth dep fr⟩
  | 15, o, a, x, ho, hi, hx, oth, dep, fr => absurd rfl hi
  | 16, o, a, x, ho, hi, hx, oth, dep, fr => by
    have e1 : oN3_16 = o := Option.some.inj ho
    subst e1
    exact ⟨10, rfl, yN3_16 E hx oth dep fr⟩
  | i + 17, o, a, x, ho, hi, hx, oth, dep, fr => by cases ho
theorem gdN3 : ∀ (i : Nat) (o : Oper), opsN3[i]? = some o → o.guard = none := by
  intro i o ho
  rcases i with _ | _ | _ | _ | _ | _ | _ | _ | _ | _ | _ | _ | _ | _ | _ | _ | _ | i
  · have e := Option.some.inj ho; subst e; rfl
  · have e := Option.some.inj ho; subst e; rfl
  · have e := Option.some.inj ho; subst e; rfl
  · have e := Option.some.inj ho; subst e; rfl
  · have e := Option.some.inj ho; subst e; rfl
  · have e := Option.some.inj ho; subst e; rfl
  · have e := Option.some.inj ho; subst e; rfl
  · have e := Option.some.inj ho; subst e; rfl
  · have e := Option.some.inj ho; subst e; rfl
  · have e := Option.some.inj ho; subst e; rfl
  · have e := Option.some.inj ho; subst e; rfl
  · have e := Option.some.inj ho; subst e; rfl
  · have e := Option.some.inj ho; subst e; rfl
  · have e := Option.some.inj ho; subst e; rfl
  · have e := Option.some.inj ho; subst e; rfl
  · have e := Option.some.inj ho; subst e; rfl
  · have e := Option.some.inj ho; subst e; rfl
  · cases ho
theorem regionN3 {id : Nat} {l : List Oper} {R : Exit → Act → World → Prop} {a0 : Act} {w : World} {B ix nn cy fk : Nat} {sE sC : Nat → Nat → Nat → Nat} (hl : l = opsN3) (hsz : a0.tmps.size = 96) (E : EnvN3 a0 w B ix nn cy fk sE sC)
    (hR : R .normal (putAll a0 [(82, .pointer (some ⟨B, 0, none⟩)), (83, .int .i64 (ix : Nat)), (84, fnV fk), (85, .pointer (some ⟨B, 0, none⟩)), (86, .int .i64 (ix : Nat)), (87, .pointer (some ⟨B, 0, none⟩)), (88, .pointer (some ⟨B, ix, none⟩)), (89, .int .u64 (nn : Nat)), (90, .int .u64 (cy : Nat)), (91, .tuple #[.int .u64 (sE nn (0) cy : Nat), .int .u64 (sC nn (0) cy : Nat)]), (81, .tuple #[.int .u64 (sE nn (0) cy : Nat), .int .u64 (sC nn (0) cy : Nat)]), (92, .int .u64 (sE nn (0) cy : Nat)), (93, .int .u64 (sC nn (0) cy : Nat)), (94, .pointer (some ⟨B, 0, none⟩)), (95, .pointer (some ⟨B, ix, none⟩)), (10, .int .u64 (sC nn (0) cy : Nat))]) (w.drew.setCell ⟨B, ix, none⟩ (.int .u64 (sE nn (0) cy : Nat)))) :
    (Code.region id l.toArray true).wp Tryd.prog R a0 w := by
  subst hl
  refine wp_region_vals (vN3 B ix nn cy fk sE sC) 15 (w.drew.setCell ⟨B, ix, none⟩ (.int .u64 (sE nn (0) cy : Nat))) (by kernel_rfl) (by decide +kernel) (fun i t h => ?_) ⟨oN3_15, rfl, rfl⟩ gdN3 (hopN3 E) (fun o a ho oth dep => ?_) (fun a size defers other vals => ?_)
  · rw [hsz]
    exact (by decide : ∀ t ∈ [10, 81, 82, 83, 84, 85, 86, 87, 88, 89, 90, 91, 92, 93, 94, 95], t < 96) t (dstN3 h)
  · have e1 : oN3_15 = o := Option.some.inj ho
    subst e1
    exact yN3_15 E oth dep
  · have hA := act_puts (a := a) (a0 := a0) [(82, .pointer (some ⟨B, 0, none⟩)), (83, .int .i64 (ix : Nat)), (84, fnV fk), (85, .pointer (some ⟨B, 0, none⟩)), (86, .int .i64 (ix : Nat)), (87, .pointer (some ⟨B, 0, none⟩)), (88, .pointer (some ⟨B, ix, none⟩)), (89, .int .u64 (nn : Nat)), (90, .int .u64 (cy : Nat)), (91, .tuple #[.int .u64 (sE nn (0) cy : Nat), .int .u64 (sC nn (0) cy : Nat)]), (81, .tuple #[.int .u64 (sE nn (0) cy : Nat), .int .u64 (sC nn (0) cy : Nat)]), (92, .int .u64 (sE nn (0) cy : Nat)), (93, .int .u64 (sC nn (0) cy : Nat)), (94, .pointer (some ⟨B, 0, none⟩)), (95, .pointer (some ⟨B, ix, none⟩)), (10, .int .u64 (sC nn (0) cy : Nat))] (by show [82, 83, 84, 85, 86, 87, 88, 89, 90, 91, 81, 92, 93, 94, 95, 10].Nodup; decide) size defers (fun j hj => other j (fun k' hk => hj ?_)) (fun r hr => ?_)
    · refine ⟨?_⟩
      rw [hA]
      exact hR
    · have hm : ∀ t ∈ [10, 81, 82, 83, 84, 85, 86, 87, 88, 89, 90, 91, 92, 93, 94, 95], t ∈ [82, 83, 84, 85, 86, 87, 88, 89, 90, 91, 81, 92, 93, 94, 95, 10] := by decide
      exact hm j (dstN3 hk)
    · simp only [List.mem_cons, List.not_mem_nil, or_false] at hr
      rcases hr with rfl | rfl | rfl | rfl | rfl | rfl | rfl | rfl | rfl | rfl | rfl | rfl | rfl | rfl | rfl | rfl
      · exact vals 0 82 rfl
      · exact vals 1 83 rfl
      · exact vals 2 84 rfl
      · exact vals 3 85 rfl
      · exact vals 4 86 rfl
      · exact vals 5 87 rfl
      · exact vals 6 88 rfl
      · exact vals 7 89 rfl
      · exact vals 8 90 rfl
      · exact vals 9 91 rfl
      · exact vals 10 81 rfl
      · exact vals 11 92 rfl
      · exact vals 12 93 rfl
      · exact vals 13 94 rfl
      · exact vals 14 95 rfl
      · exact vals 16 10 rfl
end Go.Proofs.YtmgpaheobhfioaaDoor
