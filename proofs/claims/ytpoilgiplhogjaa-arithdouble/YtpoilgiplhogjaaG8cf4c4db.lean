/- The two regions of the statement on rounding twice that draw their order. -/
import Derived.Test.YtpoilgiplhogjaaG0a575bba
namespace Go.Proofs.Ytpoilgiplhogjaa
open Go.RowKit
set_option linter.unusedVariables false
set_option linter.unusedSimpArgs false

structure Sp where
  holds : Value → World → Prop
  st : ∀ {v : Value} {x x' : World}, holds v x → Q x x' → holds v x'
def Sp.val (u : Value) : Sp := ⟨fun v _ => v = u, fun h _ => h⟩
def Sp.num (X : RNum) : Sp := ⟨fun v x => NumAt x v X, fun h q => q.num h⟩
def Sp.box (lo : Nat) : Sp := ⟨fun v x => ∃ V, v = ptrV V ∧ lo ≤ V ∧ V < x.heap.size ∧ Box5 x V 0 false none 0 0 0 false ∧ ∀ j, x.frozen? ⟨V, j, none⟩ = false, fun ⟨V, h1, h2, h3, h4, h5⟩ q => ⟨V, h1, h2, Nat.lt_of_lt_of_le h3 q.1.size, h4.next q, fun j => (q.2 _).trans (h5 j)⟩⟩
theorem Sp.next {s : Sp} {v : Value} {x x' : World} (h : s.holds v x) (q : Q x x') : s.holds v x' := s.st h q
def factOf (l : List Sp) (i : Nat) (v : Value) (x : World) : Prop := match l[i]? with
  | some s => s.holds v x
  | none => False
theorem factOf.next {l : List Sp} (i : Nat) (v : Value) (x x' : World) (h : factOf l i v x) (q : Q x x') : factOf l i v x' := by
  unfold factOf at h ⊢
  cases g : l[i]? with
  | none => rw [g] at h; exact h
  | some s => rw [g] at h; exact Sp.next h q
theorem new_box (x : World) (lo : Nat) (hlo : lo ≤ x.heap.size) : (Sp.box lo).holds (ptrV x.heap.size) (x.alloc zeroNum) :=
  ⟨x.heap.size, rfl, hlo, by simp, by unfold zeroNum; exact ⟨by simp [go_sem], by simp [go_sem], by simp [go_sem], by simp [go_sem], by simp [go_sem]⟩, fun j => by unfold zeroNum; simp [go_sem]⟩
def o4_0 : Oper := { dst := some 12, op := .load 25 (.tmp 5), type := 25, pos := "outright.go:165", after := #[], guard := none }
def o4_1 : Oper := { dst := some 13, op := .move (.tmp 0), type := 22, pos := "outright.go:165", after := #[], guard := none }
def o4_2 : Oper := { dst := some 14, op := .call { callee := .value (.func 7), args := #[.tmp 13], argTypes := #[22] }, type := 32, pos := "outright.go:165", after := #[⟨1, .data⟩], guard := none }
def o4_3 : Oper := { dst := some 15, op := .call { callee := .value (.func 6), args := #[.tmp 12, .tmp 14], argTypes := #[25, 32] }, type := 30, pos := "outright.go:165", after := #[⟨0, .data⟩, ⟨2, .data⟩, ⟨2, .chain⟩], guard := none }
def o4_4 : Oper := { dst := some 16, op := .load 25 (.tmp 5), type := 25, pos := "outright.go:165", after := #[], guard := none }
def o4_5 : Oper := { dst := some 17, op := .move (.tmp 1), type := 22, pos := "outright.go:165", after := #[], guard := none }
def o4_6 : Oper := { dst := some 18, op := .call { callee := .value (.func 7), args := #[.tmp 17], argTypes := #[22] }, type := 32, pos := "outright.go:165", after := #[⟨5, .data⟩, ⟨3, .chain⟩], guard := none }
def o4_7 : Oper := { dst := some 19, op := .call { callee := .value (.func 6), args := #[.tmp 16, .tmp 18], argTypes := #[25, 32] }, type := 30, pos := "outright.go:165", after := #[⟨4, .data⟩, ⟨6, .data⟩, ⟨6, .chain⟩], guard := none }
def o4_8 : Oper := { dst := some 6, op := .alloc 30, type := 0, pos := "outright.go:165", after := #[], guard := none }
def o4_9 : Oper := { dst := some 7, op := .alloc 30, type := 0, pos := "outright.go:165", after := #[], guard := none }
def o4_10 : Oper := { dst := none, op := .store 30 (.tmp 6) (.tmp 15), type := 0, pos := "outright.go:165", after := #[⟨8, .data⟩, ⟨3, .data⟩, ⟨7, .chain⟩, ⟨0, .phase⟩, ⟨1, .phase⟩, ⟨2, .phase⟩, ⟨3, .phase⟩, ⟨4, .textOnly .lateStores⟩, ⟨5, .textOnly .lateStores⟩, ⟨6, .textOnly .lateStoresUnsure⟩, ⟨7, .textOnly .lateStoresUnsure⟩, ⟨8, .phase⟩, ⟨9, .phase⟩], guard := none }
def o4_11 : Oper := { dst := none, op := .store 30 (.tmp 7) (.tmp 19), type := 0, pos := "outright.go:165", after := #[⟨9, .data⟩, ⟨7, .data⟩, ⟨10, .chain⟩, ⟨0, .phase⟩, ⟨1, .phase⟩, ⟨2, .phase⟩, ⟨3, .phase⟩, ⟨4, .phase⟩, ⟨5, .phase⟩, ⟨6, .phase⟩, ⟨7, .phase⟩, ⟨8, .phase⟩, ⟨9, .phase⟩, ⟨10, .phase⟩], guard := none }
def ops4 : List Oper := [o4_0, o4_1, o4_2, o4_3, o4_4, o4_5, o4_6, o4_7, o4_8, o4_9, o4_10, o4_11]
def s4 : List Nat := [12, 13, 14, 15, 16, 17, 18, 19, 6, 7]
def o7_0 : Oper := { dst := some 25, op := .move (.tmp 0), type := 22, pos := "outright.go:168", after := #[], guard := none }
def o7_1 : Oper := { dst := some 26, op := .move (.tmp 1), type := 22, pos := "outright.go:168", after := #[], guard := none }
def o7_2 : Oper := { dst := some 27, op := .call { callee := .value (.func 8), args := #[.tmp 25, .tmp 26], argTypes := #[22, 22] }, type := 22, pos := "outright.go:168", after := #[⟨0, .data⟩, ⟨1, .data⟩], guard := none }
def o7_3 : Oper := { dst := some 28, op := .load 25 (.tmp 5), type := 25, pos := "outright.go:168", after := #[], guard := none }
def o7_4 : Oper := { dst := some 29, op := .load 30 (.tmp 6), type := 30, pos := "outright.go:168", after := #[], guard := none }
def o7_5 : Oper := { dst := some 30, op := .load 30 (.tmp 7), type := 30, pos := "outright.go:168", after := #[], guard := none }
def o7_6 : Oper := { dst := some 31, op := .call { callee := .value (.func 11), args := #[.tmp 29, .tmp 30], argTypes := #[30, 30] }, type := 30, pos := "outright.go:168", after := #[⟨4, .data⟩, ⟨5, .data⟩, ⟨2, .chain⟩], guard := none }
def o7_7 : Oper := { dst := some 32, op := .call { callee := .value (.func 10), args := #[.tmp 28, .tmp 31], argTypes := #[25, 30] }, type := 32, pos := "outright.go:168", after := #[⟨3, .data⟩, ⟨6, .data⟩, ⟨6, .chain⟩], guard := none }
def o7_8 : Oper := { dst := some 33, op := .call { callee := .value (.func 9), args := #[.tmp 32], argTypes := #[32] }, type := 22, pos := "outright.go:168", after := #[⟨7, .data⟩, ⟨7, .chain⟩], guard := none }
def o7_9 : Oper := { dst := some 34, op := .binOp .eql 22 (.tmp 27) (.tmp 33) 22, type := 4, pos := "outright.go:168", after := #[⟨2, .data⟩, ⟨8, .data⟩], guard := none }
def o7_10 : Oper := { dst := some 35, op := .move (.tmp 34), type := 4, pos := "outright.go:168", after := #[⟨9, .data⟩, ⟨8, .chain⟩], guard := none }
def o7_11 : Oper := { dst := some 36, op := .move (.tmp 0), type := 22, pos := "outright.go:168", after := #[⟨10, .guard⟩], guard := some (10, true) }
def o7_12 : Oper := { dst := some 37, op := .move (.tmp 1), type := 22, pos := "outright.go:168", after := #[⟨10, .guard⟩], guard := some (10, true) }
def o7_13 : Oper := { dst := some 38, op := .call { callee := .value (.func 12), args := #[.tmp 36, .tmp 37], argTypes := #[22, 22] }, type := 22, pos := "outright.go:168", after := #[⟨11, .data⟩, ⟨12, .data⟩, ⟨10, .chain⟩, ⟨10, .guard⟩], guard := some (10, true) }
def o7_14 : Oper := { dst := some 39, op := .load 25 (.tmp 5), type := 25, pos := "outright.go:168", after := #[⟨10, .guard⟩], guard := some (10, true) }
def o7_15 : Oper := { dst := some 40, op := .load 30 (.tmp 6), type := 30, pos := "outright.go:168", after := #[⟨10, .guard⟩], guard := some (10, true) }
def o7_16 : Oper := { dst := some 41, op := .load 30 (.tmp 8), type := 30, pos := "outright.go:168", after := #[⟨10, .guard⟩], guard := some (10, true) }
def o7_17 : Oper := { dst := some 42, op := .call { callee := .value (.func 11), args := #[.tmp 40, .tmp 41], argTypes := #[30, 30] }, type := 30, pos := "outright.go:168", after := #[⟨15, .data⟩, ⟨16, .data⟩, ⟨13, .chain⟩, ⟨10, .guard⟩], guard := some (10, true) }
def o7_18 : Oper := { dst := some 43, op := .call { callee := .value (.func 10), args := #[.tmp 39, .tmp 42], argTypes := #[25, 30] }, type := 32, pos := "outright.go:168", after := #[⟨14, .data⟩, ⟨17, .data⟩, ⟨17, .chain⟩, ⟨10, .guard⟩], guard := some (10, true) }
def o7_19 : Oper := { dst := some 44, op := .call { callee := .value (.func 9), args := #[.tmp 43], argTypes := #[32] }, type := 22, pos := "outright.go:168", after := #[⟨18, .data⟩, ⟨18, .chain⟩, ⟨10, .guard⟩], guard := some (10, true) }
def o7_20 : Oper := { dst := some 45, op := .binOp .eql 22 (.tmp 38) (.tmp 44) 22, type := 4, pos := "outright.go:168", after := #[⟨13, .data⟩, ⟨19, .data⟩, ⟨10, .guard⟩], guard := some (10, true) }
def o7_21 : Oper := { dst := some 46, op := .pick (.tmp 35) (.tmp 45) (.const (.bool false)), type := 4, pos := "outright.go:168", after := #[⟨10, .data⟩, ⟨20, .data⟩], guard := none }
def o7_22 : Oper := { dst := some 47, op := .move (.tmp 46), type := 4, pos := "outright.go:168", after := #[⟨21, .data⟩, ⟨19, .chain⟩], guard := none }
def o7_23 : Oper := { dst := some 48, op := .move (.tmp 0), type := 22, pos := "outright.go:168", after := #[⟨22, .guard⟩], guard := some (22, true) }
def o7_24 : Oper := { dst := some 49, op := .move (.tmp 1), type := 22, pos := "outright.go:168", after := #[⟨22, .guard⟩], guard := some (22, true) }
def o7_25 : Oper := { dst := some 50, op := .call { callee := .value (.func 13), args := #[.tmp 48, .tmp 49], argTypes := #[22, 22] }, type := 22, pos := "outright.go:168", after := #[⟨23, .data⟩, ⟨24, .data⟩, ⟨22, .chain⟩, ⟨22, .guard⟩], guard := some (22, true) }
def o7_26 : Oper := { dst := some 51, op := .load 25 (.tmp 5), type := 25, pos := "outright.go:168", after := #[⟨22, .guard⟩], guard := some (22, true) }
def o7_27 : Oper := { dst := some 52, op := .load 30 (.tmp 6), type := 30, pos := "outright.go:168", after := #[⟨22, .guard⟩], guard := some (22, true) }
def o7_28 : Oper := { dst := some 53, op := .load 30 (.tmp 7), type := 30, pos := "outright.go:168", after := #[⟨22, .guard⟩], guard := some (22, true) }
def o7_29 : Oper := { dst := some 54, op := .call { callee := .value (.func 14), args := #[.tmp 52, .tmp 53], argTypes := #[30, 30] }, type := 30, pos := "outright.go:168", after := #[⟨27, .data⟩, ⟨28, .data⟩, ⟨25, .chain⟩, ⟨22, .guard⟩], guard := some (22, true) }
def o7_30 : Oper := { dst := some 55, op := .call { callee := .value (.func 10), args := #[.tmp 51, .tmp 54], argTypes := #[25, 30] }, type := 32, pos := "outright.go:168", after := #[⟨26, .data⟩, ⟨29, .data⟩, ⟨29, .chain⟩, ⟨22, .guard⟩], guard := some (22, true) }
def o7_31 : Oper := { dst := some 56, op := .call { callee := .value (.func 9), args := #[.tmp 55], argTypes := #[32] }, type := 22, pos := "outright.go:168", after := #[⟨30, .data⟩, ⟨30, .chain⟩, ⟨22, .guard⟩], guard := some (22, true) }
def o7_32 : Oper := { dst := some 57, op := .binOp .eql 22 (.tmp 50) (.tmp 56) 22, type := 4, pos := "outright.go:168", after := #[⟨25, .data⟩, ⟨31, .data⟩, ⟨22, .guard⟩], guard := some (22, true) }
def o7_33 : Oper := { dst := some 58, op := .pick (.tmp 47) (.tmp 57) (.const (.bool false)), type := 4, pos := "outright.go:168", after := #[⟨22, .data⟩, ⟨32, .data⟩], guard := none }
def o7_34 : Oper := { dst := some 59, op := .move (.tmp 58), type := 4, pos := "outright.go:168", after := #[⟨33, .data⟩, ⟨31, .chain⟩], guard := none }
def o7_35 : Oper := { dst := some 60, op := .move (.tmp 0), type := 22, pos := "outright.go:168", after := #[⟨34, .guard⟩], guard := some (34, true) }
def o7_36 : Oper := { dst := some 61, op := .move (.tmp 1), type := 22, pos := "outright.go:168", after := #[⟨34, .guard⟩], guard := some (34, true) }
def o7_37 : Oper := { dst := some 62, op := .call { callee := .value (.func 15), args := #[.tmp 60, .tmp 61], argTypes := #[22, 22] }, type := 22, pos := "outright.go:168", after := #[⟨35, .data⟩, ⟨36, .data⟩, ⟨34, .chain⟩, ⟨34, .guard⟩], guard := some (34, true) }
def o7_38 : Oper := { dst := some 63, op := .load 25 (.tmp 5), type := 25, pos := "outright.go:168", after := #[⟨34, .guard⟩], guard := some (34, true) }
def o7_39 : Oper := { dst := some 64, op := .load 30 (.tmp 6), type := 30, pos := "outright.go:168", after := #[⟨34, .guard⟩], guard := some (34, true) }
def o7_40 : Oper := { dst := some 65, op := .load 30 (.tmp 7), type := 30, pos := "outright.go:168", after := #[⟨34, .guard⟩], guard := some (34, true) }
def o7_41 : Oper := { dst := some 66, op := .call { callee := .value (.func 16), args := #[.tmp 64, .tmp 65], argTypes := #[30, 30] }, type := 30, pos := "outright.go:168", after := #[⟨39, .data⟩, ⟨40, .data⟩, ⟨37, .chain⟩, ⟨34, .guard⟩], guard := some (34, true) }
def o7_42 : Oper := { dst := some 67, op := .call { callee := .value (.func 10), args := #[.tmp 63, .tmp 66], argTypes := #[25, 30] }, type := 32, pos := "outright.go:168", after := #[⟨38, .data⟩, ⟨41, .data⟩, ⟨41, .chain⟩, ⟨34, .guard⟩], guard := some (34, true) }
def o7_43 : Oper := { dst := some 68, op := .call { callee := .value (.func 9), args := #[.tmp 67], argTypes := #[32] }, type := 22, pos := "outright.go:168", after := #[⟨42, .data⟩, ⟨42, .chain⟩, ⟨34, .guard⟩], guard := some (34, true) }
def o7_44 : Oper := { dst := some 69, op := .binOp .eql 22 (.tmp 62) (.tmp 68) 22, type := 4, pos := "outright.go:168", after := #[⟨37, .data⟩, ⟨43, .data⟩, ⟨34, .guard⟩], guard := some (34, true) }
def o7_45 : Oper := { dst := some 70, op := .pick (.tmp 59) (.tmp 69) (.const (.bool false)), type := 4, pos := "outright.go:168", after := #[⟨34, .data⟩, ⟨44, .data⟩], guard := none }
def o7_46 : Oper := { dst := some 4, op := .assign (.tmp 70), type := 4, pos := "outright.go:168", after := #[⟨45, .data⟩, ⟨43, .chain⟩, ⟨0, .phase⟩, ⟨1, .phase⟩, ⟨2, .phase⟩, ⟨3, .phase⟩, ⟨4, .phase⟩, ⟨5, .phase⟩, ⟨6, .phase⟩, ⟨7, .phase⟩, ⟨8, .phase⟩, ⟨9, .phase⟩, ⟨10, .phase⟩, ⟨11, .phase⟩, ⟨12, .phase⟩, ⟨13, .phase⟩, ⟨14, .phase⟩, ⟨15, .phase⟩, ⟨16, .phase⟩, ⟨17, .phase⟩, ⟨18, .phase⟩, ⟨19, .phase⟩, ⟨20, .phase⟩, ⟨21, .phase⟩, ⟨22, .phase⟩, ⟨23, .phase⟩, ⟨24, .phase⟩, ⟨25, .phase⟩, ⟨26, .phase⟩, ⟨27, .phase⟩, ⟨28, .phase⟩, ⟨29, .phase⟩, ⟨30, .phase⟩, ⟨31, .phase⟩, ⟨32, .phase⟩, ⟨33, .phase⟩, ⟨34, .phase⟩, ⟨35, .phase⟩, ⟨36, .phase⟩, ⟨37, .phase⟩, ⟨38, .phase⟩, ⟨39, .phase⟩, ⟨40, .phase⟩, ⟨41, .phase⟩, ⟨42, .phase⟩, ⟨43, .phase⟩, ⟨44, .phase⟩, ⟨45, .phase⟩], guard := none }
def ops7 : List Oper := [o7_0, o7_1, o7_2, o7_3, o7_4, o7_5, o7_6, o7_7, o7_8, o7_9, o7_10, o7_11, o7_12, o7_13, o7_14, o7_15, o7_16, o7_17, o7_18, o7_19, o7_20, o7_21, o7_22, o7_23, o7_24, o7_25, o7_26, o7_27, o7_28, o7_29, o7_30, o7_31, o7_32, o7_33, o7_34, o7_35, o7_36, o7_37, o7_38, o7_39, o7_40, o7_41, o7_42, o7_43, o7_44, o7_45, o7_46]
def s7 : List Nat := [25, 26, 27, 28, 29, 30, 31, 32, 33, 34, 35, 36, 37, 38, 39, 40, 41, 42, 43, 44, 45, 46, 47, 48, 49, 50, 51, 52, 53, 54, 55, 56, 57, 58, 59, 60, 61, 62, 63, 64, 65, 66, 67, 68, 69, 70]
def sp4 (A B WA WB lo : Nat) (X Y : RNum) : List Sp := [.val formV, .val (.int .u32 (A : Nat)), .val (.int .u64 (WA : Nat)), .num X, .val formV, .val (.int .u32 (B : Nat)), .val (.int .u64 (WB : Nat)), .num Y, .box lo, .box lo]
structure Env4 (a0 : Act) (w : World) (A B WA WB pf : Nat) (X Y : RNum) : Prop where
  h0 : a0.tmps[0]? = some (.int .u32 (A : Nat))
  h1 : a0.tmps[1]? = some (.int .u32 (B : Nat))
  h5 : a0.tmps[5]? = some (ptrV pf)
  fb : FBox w pf
  cWA : ∀ x, Calls Try.prog 7 #[.int .u32 (A : Nat)] x fun e x' => e = .returned (.int .u64 (WA : Nat)) ∧ Q x x'
  cWB : ∀ x, Calls Try.prog 7 #[.int .u32 (B : Nat)] x fun e x' => e = .returned (.int .u64 (WB : Nat)) ∧ Q x x'
  cX : ∀ x, Calls Try.prog 6 #[formV, .int .u64 (WA : Nat)] x fun e x' => ∃ v, e = .returned v ∧ NumAt x' v X ∧ Q x x'
  cY : ∀ x, Calls Try.prog 6 #[formV, .int .u64 (WB : Nat)] x fun e x' => ∃ v, e = .returned v ∧ NumAt x' v Y ∧ Q x x'
theorem y4_0 {a0 : Act} {w : World} {A B WA WB pf : Nat} {X Y : RNum} (E : Env4 a0 w A B WA WB pf X Y) {R : Exit → Act → World → Prop} {a : Act} {x : World} (q : Q w x) (oth : ∀ j, j ∉ s4 → a.tmps[j]? = a0.tmps[j]?) (dep : ∀ e ∈ o4_0.after, Region.binds .any e = true → ∀ t', s4[e.on]? = some t' → ∃ v, a.tmps[t']? = some v ∧ factOf (sp4 A B WA WB w.heap.size X Y) e.on v x) : Yld Try.prog R o4_0 a x 12 (fun v x' => factOf (sp4 A B WA WB w.heap.size X Y) 0 v x' ∧ (0 ∈ ([8, 9] : List Nat) → v = ptrV x.heap.size)) := by
  exact yld_run (x' := x) rfl (run_form (tmp_eval ((oth 5 (by decide)).trans E.h5)) (E.fb.next q)) (Q.refl x) ⟨rfl, fun h => absurd h (by decide)⟩
theorem y4_1 {a0 : Act} {w : World} {A B WA WB pf : Nat} {X Y : RNum} (E : Env4 a0 w A B WA WB pf X Y) {R : Exit → Act → World → Prop} {a : Act} {x : World} (q : Q w x) (oth : ∀ j, j ∉ s4 → a.tmps[j]? = a0.tmps[j]?) (dep : ∀ e ∈ o4_1.after, Region.binds .any e = true → ∀ t', s4[e.on]? = some t' → ∃ v, a.tmps[t']? = some v ∧ factOf (sp4 A B WA WB w.heap.size X Y) e.on v x) : Yld Try.prog R o4_1 a x 13 (fun v x' => factOf (sp4 A B WA WB w.heap.size X Y) 1 v x' ∧ (1 ∈ ([8, 9] : List Nat) → v = ptrV x.heap.size)) := by
  exact yld_move ((oth 0 (by decide)).trans E.h0) ⟨rfl, fun h => absurd h (by decide)⟩
theorem y4_2 {a0 : Act} {w : World} {A B WA WB pf : Nat} {X Y : RNum} (E : Env4 a0 w A B WA WB pf X Y) {R : Exit → Act → World → Prop} {a : Act} {x : World} (q : Q w x) (oth : ∀ j, j ∉ s4 → a.tmps[j]? = a0.tmps[j]?) (dep : ∀ e ∈ o4_2.after, Region.binds .any e = true → ∀ t', s4[e.on]? = some t' → ∃ v, a.tmps[t']? = some v ∧ factOf (sp4 A B WA WB w.heap.size X Y) e.on v x) : Yld Try.prog R o4_2 a x 14 (fun v x' => factOf (sp4 A B WA WB w.heap.size X Y) 2 v x' ∧ (2 ∈ ([8, 9] : List Nat) → v = ptrV x.heap.size)) := by
  obtain ⟨v1, t1, f1⟩ := dep ⟨1, .data⟩ (by simp [o4_2]) rfl 13 rfl
  have f1 : v1 = (.int .u32 (A : Nat)) := f1
  subst f1
  refine yld_call (enters_of Try.func7 (by kernel_rfl) rfl) (args1 t1) ((E.cWA x).mono ?_)
  rintro e x' ⟨rfl, q'⟩
  exact ⟨_, rfl, q', rfl, fun h => absurd h (by decide)⟩
theorem y4_3 {a0 : Act} {w : World} {A B WA WB pf : Nat} {X Y : RNum} (E : Env4 a0 w A B WA WB pf X Y) {R : Exit → Act → World → Prop} {a : Act} {x : World} (q : Q w x) (oth : ∀ j, j ∉ s4 → a.tmps[j]? = a0.tmps[j]?) (dep : ∀ e ∈ o4_3.after, Region.binds .any e = true → ∀ t', s4[e.on]? = some t' → ∃ v, a.tmps[t']? = some v ∧ factOf (sp4 A B WA WB w.heap.size X Y) e.on v x) : Yld Try.prog R o4_3 a x 15 (fun v x' => factOf (sp4 A B WA WB w.heap.size X Y) 3 v x' ∧ (3 ∈ ([8, 9] : List Nat) → v = ptrV x.heap.size)) := by
  obtain ⟨v1, t1, f1⟩ := dep ⟨0, .data⟩ (by simp [o4_3]) rfl 12 rfl
  have f1 : v1 = formV := f1
  subst f1
  obtain ⟨v2, t2, f2⟩ := dep ⟨2, .data⟩ (by simp [o4_3]) rfl 14 rfl
  have f2 : v2 = (.int .u64 (WA : Nat)) := f2
  subst f2
  refine yld_call (enters_of Try.func6 (by kernel_rfl) rfl) (args2 t1 t2) ((E.cX x).mono ?_)
  rintro e x' ⟨v, rfl, h, q'⟩
  exact ⟨v, rfl, q', h, fun h => absurd h (by decide)⟩
theorem y4_4 {a0 : Act} {w : World} {A B WA WB pf : Nat} {X Y : RNum} (E : Env4 a0 w A B WA WB pf X Y) {R : Exit → Act → World → Prop} {a : Act} {x : World} (q : Q w x) (oth : ∀ j, j ∉ s4 → a.tmps[j]? = a0.tmps[j]?) (dep : ∀ e ∈ o4_4.after, Region.binds .any e = true → ∀ t', s4[e.on]? = some t' → ∃ v, a.tmps[t']? = some v ∧ factOf (sp4 A B WA WB w.heap.size X Y) e.on v x) : Yld Try.prog R o4_4 a x 16 (fun v x' => factOf (sp4 A B WA WB w.heap.size X Y) 4 v x' ∧ (4 ∈ ([8, 9] : List Nat) → v = ptrV x.heap.size)) := by
  exact yld_run (x' := x) rfl (run_form (tmp_eval ((oth 5 (by decide)).trans E.h5)) (E.fb.next q)) (Q.refl x) ⟨rfl, fun h => absurd h (by decide)⟩
theorem y4_5 {a0 : Act} {w : World} {A B WA WB pf : Nat} {X Y : RNum} (E : Env4 a0 w A B WA WB pf X Y) {R : Exit → Act → World → Prop} {a : Act} {x : World} (q : Q w x) (oth : ∀ j, j ∉ s4 → a.tmps[j]? = a0.tmps[j]?) (dep : ∀ e ∈ o4_5.after, Region.binds .any e = true → ∀ t', s4[e.on]? = some t' → ∃ v, a.tmps[t']? = some v ∧ factOf (sp4 A B WA WB w.heap.size X Y) e.on v x) : Yld Try.prog R o4_5 a x 17 (fun v x' => factOf (sp4 A B WA WB w.heap.size X Y) 5 v x' ∧ (5 ∈ ([8, 9] : List Nat) → v = ptrV x.heap.size)) := by
  exact yld_move ((oth 1 (by decide)).trans E.h1) ⟨rfl, fun h => absurd h (by decide)⟩
theorem y4_6 {a0 : Act} {w : World} {A B WA WB pf : Nat} {X Y : RNum} (E : Env4 a0 w A B WA WB pf X Y) {R : Exit → Act → World → Prop} {a : Act} {x : World} (q : Q w x) (oth : ∀ j, j ∉ s4 → a.tmps[j]? = a0.tmps[j]?) (dep : ∀ e ∈ o4_6.after, Region.binds .any e = true → ∀ t', s4[e.on]? = some t' → ∃ v, a.tmps[t']? = some v ∧ factOf (sp4 A B WA WB w.heap.size X Y) e.on v x) : Yld Try.prog R o4_6 a x 18 (fun v x' => factOf (sp4 A B WA WB w.heap.size X Y) 6 v x' ∧ (6 ∈ ([8, 9] : List Nat) → v = ptrV x.heap.size)) := by
  obtain ⟨v1, t1, f1⟩ := dep ⟨5, .data⟩ (by simp [o4_6]) rfl 17 rfl
  have f1 : v1 = (.int .u32 (B : Nat)) := f1
  subst f1
  refine yld_call (enters_of Try.func7 (by kernel_rfl) rfl) (args1 t1) ((E.cWB x).mono ?_)
  rintro e x' ⟨rfl, q'⟩
  exact ⟨_, rfl, q', rfl, fun h => absurd h (by decide)⟩
theorem y4_7 {a0 : Act} {w : World} {A B WA WB pf : Nat} {X Y : RNum} (E : Env4 a0 w A B WA WB pf X Y) {R : Exit → Act → World → Prop} {a : Act} {x : World} (q : Q w x) (oth : ∀ j, j ∉ s4 → a.tmps[j]? = a0.tmps[j]?) (dep : ∀ e ∈ o4_7.after, Region.binds .any e = true → ∀ t', s4[e.on]? = some t' → ∃ v, a.tmps[t']? = some v ∧ factOf (sp4 A B WA WB w.heap.size X Y) e.on v x) : Yld Try.prog R o4_7 a x 19 (fun v x' => factOf (sp4 A B WA WB w.heap.size X Y) 7 v x' ∧ (7 ∈ ([8, 9] : List Nat) → v = ptrV x.heap.size)) := by
  obtain ⟨v1, t1, f1⟩ := dep ⟨4, .data⟩ (by simp [o4_7]) rfl 16 rfl
  have f1 : v1 = formV := f1
  subst f1
  obtain ⟨v2, t2, f2⟩ := dep ⟨6, .data⟩ (by simp [o4_7]) rfl 18 rfl
  have f2 : v2 = (.int .u64 (WB : Nat)) := f2
  subst f2
  refine yld_call (enters_of Try.func6 (by kernel_rfl) rfl) (args2 t1 t2) ((E.cY x).mono ?_)
  rintro e x' ⟨v, rfl, h, q'⟩
  exact ⟨v, rfl, q', h, fun h => absurd h (by decide)⟩
theorem y4_8 {a0 : Act} {w : World} {A B WA WB pf : Nat} {X Y : RNum} (E : Env4 a0 w A B WA WB pf X Y) {R : Exit → Act → World → Prop} {a : Act} {x : World} (q : Q w x) (oth : ∀ j, j ∉ s4 → a.tmps[j]? = a0.tmps[j]?) (dep : ∀ e ∈ o4_8.after, Region.binds .any e = true → ∀ t', s4[e.on]? = some t' → ∃ v, a.tmps[t']? = some v ∧ factOf (sp4 A B WA WB w.heap.size X Y) e.on v x) : Yld Try.prog R o4_8 a x 6 (fun v x' => factOf (sp4 A B WA WB w.heap.size X Y) 8 v x' ∧ (8 ∈ ([8, 9] : List Nat) → v = ptrV x.heap.size)) := by
  exact yld_run rfl run_newnum ((Q.refl x).cells _ _) ⟨new_box x _ q.1.size, fun _ => rfl⟩
theorem y4_9 {a0 : Act} {w : World} {A B WA WB pf : Nat} {X Y : RNum} (E : Env4 a0 w A B WA WB pf X Y) {R : Exit → Act → World → Prop} {a : Act} {x : World} (q : Q w x) (oth : ∀ j, j ∉ s4 → a.tmps[j]? = a0.tmps[j]?) (dep : ∀ e ∈ o4_9.after, Region.binds .any e = true → ∀ t', s4[e.on]? = some t' → ∃ v, a.tmps[t']? = some v ∧ factOf (sp4 A B WA WB w.heap.size X Y) e.on v x) : Yld Try.prog R o4_9 a x 7 (fun v x' => factOf (sp4 A B WA WB w.heap.size X Y) 9 v x' ∧ (9 ∈ ([8, 9] : List Nat) → v = ptrV x.heap.size)) := by
  exact yld_run rfl run_newnum ((Q.refl x).cells _ _) ⟨new_box x _ q.1.size, fun _ => rfl⟩
theorem hop4 {a0 : Act} {w : World} {A B WA WB pf : Nat} {X Y : RNum} (E : Env4 a0 w A B WA WB pf X Y) {R : Exit → Act → World → Prop} : ∀ (i t : Nat) (o : Oper) (a : Act) (x : World), i < 10 → s4[i]? = some t → ops4[i]? = some o → Q w x → (∀ j, j ∉ s4 → a.tmps[j]? = a0.tmps[j]?) → (∀ e ∈ o.after, Region.binds .any e = true → ∀ t', s4[e.on]? = some t' → ∃ v, a.tmps[t']? = some v ∧ factOf (sp4 A B WA WB w.heap.size X Y) e.on v x) → Yld Try.prog R o a x t (fun v x' => factOf (sp4 A B WA WB w.heap.size X Y) i v x' ∧ (i ∈ ([8, 9] : List Nat) → v = ptrV x.heap.size))
  | 0, t, o, a, x, hi, ht, ho, q, oth, dep => by
    have e1 : o4_0 = o := Option.some.inj ho
    have e2 : 12 = t := Option.some.inj ht
    subst e1 e2
    exact y4_0 E q oth dep
  | 1, t, o, a, x, hi, ht, ho, q, oth, dep => by
    have e1 : o4_1 = o := Option.some.inj ho
    have e2 : 13 = t := Option.some.inj ht
    subst e1 e2
    exact y4_1 E q oth dep
  | 2, t, o, a, x, hi, ht, ho, q, oth, dep => by
    have e1 : o4_2 = o := Option.some.inj ho
    have e2 : 14 = t := Option.some.inj ht
    subst e1 e2
    exact y4_2 E q oth dep
  | 3, t, o, a, x, hi, ht, ho, q, oth, dep => by
    have e1 : o4_3 = o := Option.some.inj ho
    have e2 : 15 = t := Option.some.inj ht
    subst e1 e2
    exact y4_3 E q oth dep
  | 4, t, o, a, x, hi, ht, ho, q, oth, dep => by
    have e1 : o4_4 = o := Option.some.inj ho
    have e2 : 16 = t := Option.some.inj ht
    subst e1 e2
    exact y4_4 E q oth dep
  | 5, t, o, a, x, hi, ht, ho, q, oth, dep => by
    have e1 : o4_5 = o := Option.some.inj ho
    have e2 : 17 = t := Option.some.inj ht
    subst e1 e2
    exact y4_5 E q oth dep
  | 6, t, o, a, x, hi, ht, ho, q, oth, dep => by
    have e1 : o4_6 = o := Option.some.inj ho
    have e2 : 18 = t := Option.some.inj ht
    subst e1 e2
    exact y4_6 E q oth dep
  | 7, t, o, a, x, hi, ht, ho, q, oth, dep => by
    have e1 : o4_7 = o := Option.some.inj ho
    have e2 : 19 = t := Option.some.inj ht
    subst e1 e2
    exact y4_7 E q oth dep
  | 8, t, o, a, x, hi, ht, ho, q, oth, dep => by
    have e1 : o4_8 = o := Option.some.inj ho
    have e2 : 6 = t := Option.some.inj ht
    subst e1 e2
    exact y4_8 E q oth dep
  | 9, t, o, a, x, hi, ht, ho, q, oth, dep => by
    have e1 : o4_9 = o := Option.some.inj ho
    have e2 : 7 = t := Option.some.inj ht
    subst e1 e2
    exact y4_9 E q oth dep
  | i + 10, t, o, a, x, hi, ht, ho, q, oth, dep => absurd hi (by omega)
theorem region4 {id : Nat} {l : List Oper} {R : Exit → Act → World → Prop} {a0 : Act} {w : World} {A B WA WB pf : Nat} {X Y : RNum} (hl : l = ops4) (hsz : a0.tmps.size = 71) (E : Env4 a0 w A B WA WB pf X Y)
    (hR : ∀ x V6 V7 v12 v13 v14 v15 v16 v17 v18 v19, Q w x → NBox x V6 X → NBox x V7 Y → V6 ≠ V7 → R .normal (putAll a0 [(12, v12), (13, v13), (14, v14), (15, v15), (16, v16), (17, v17), (18, v18), (19, v19), (6, ptrV V6), (7, ptrV V7)]) x) :
    (Code.region id l.toArray true).wp Try.prog R a0 w := by
  subst hl
  refine wp_region_facts 10 s4 (factOf (sp4 A B WA WB w.heap.size X Y)) [8, 9] (by kernel_rfl) (by decide +kernel) (by decide) rfl (by decide) (fun t ht => ?_) factOf.next (fun i v x hi hf => ?_) (hop4 E) (fun a x q size defers other facts apart => ?_)
  · rw [hsz]
    revert t
    decide
  · have hi : i = 8 ∨ i = 9 := by simpa using hi
    rcases hi with rfl | rfl <;> (obtain ⟨V, h1, _, h3, _⟩ := hf; exact ⟨V, h1, h3⟩)
  · have F : ∀ i t, i < 10 → s4[i]? = some t → ∃ v, a.tmps[t]? = some v := fun i t h1 h2 => by
      obtain ⟨v, h, _⟩ := facts i t h1 h2; exact ⟨v, h⟩
    obtain ⟨v12, t12⟩ := F 0 12 (by decide) rfl
    obtain ⟨v13, t13⟩ := F 1 13 (by decide) rfl
    obtain ⟨v14, t14⟩ := F 2 14 (by decide) rfl
    obtain ⟨v15, t15, f15⟩ := facts 3 15 (by decide) rfl
    obtain ⟨v16, t16⟩ := F 4 16 (by decide) rfl
    obtain ⟨v17, t17⟩ := F 5 17 (by decide) rfl
    obtain ⟨v18, t18⟩ := F 6 18 (by decide) rfl
    obtain ⟨v19, t19, f19⟩ := facts 7 19 (by decide) rfl
    obtain ⟨v6, t6, V6, rfl, l6, m6, b6, z6⟩ := facts 8 6 (by decide) rfl
    obtain ⟨v7, t7, V7, rfl, l7, m7, b7, z7⟩ := facts 9 7 (by decide) rfl
    have n67 : V6 ≠ V7 := fun e => by
      subst e
      exact apart 8 9 6 7 _ (by decide) (by decide) (by decide) (by decide) (by decide) rfl rfl t6 t7
    have f15 : NumAt x v15 X := f15
    have f19 : NumAt x v19 Y := f19
    obtain ⟨k, s, p, L, C, e, m, rfl⟩ := f15.made
    obtain ⟨k', s', p', L', C', e', m', rfl⟩ := f19.made
    refine ⟨?_⟩
    show Oper.wp Try.prog o4_10 a x (fun a' x' => Oper.wp Try.prog o4_11 a' x' (fun a'' x'' => R .normal a'' x'') R) R
    refine store_num t6 t15 b6 z6 (fun x1 _ h1 => ?_)
    have b7' : Box5 x1 V7 0 false none 0 0 0 false := by
      obtain ⟨c0, c1, c2, c3, c4⟩ := b7
      subst h1
      exact ⟨by simp only [box_other n67.symm]; exact c0, by simp only [box_other n67.symm]; exact c1, by simp only [box_other n67.symm]; exact c2, by simp only [box_other n67.symm]; exact c3, by simp only [box_other n67.symm]; exact c4⟩
    have z7' : ∀ j, x1.frozen? ⟨V7, j, none⟩ = false := fun j => by subst h1; simp only [World.frozen?_setCell]; exact z7 j
    have b6' : Box5 x1 V6 k s p L C e m := by
      obtain ⟨c0, c1, c2, c3, c4⟩ := b6
      subst h1
      exact ⟨by simp [go_sem, c0, c1, c2, c3, c4], by simp [go_sem, c0, c1, c2, c3, c4], by simp [go_sem, c0, c1, c2, c3, c4], by simp [go_sem, c0, c1, c2, c3, c4], by simp [go_sem, c0, c1, c2, c3, c4]⟩
    have k1 : ∀ y : Addr, y.block ≠ V6 → x1.cell? y = x.cell? y := fun y hy => by
      subst h1
      have hn : ∀ j, (⟨V6, j, none⟩ : Addr) ≠ y := fun j e => hy (by rw [← e])
      rw [World.cell?_setCell_other _ _ _ _ (hn _), World.cell?_setCell_other _ _ _ _ (hn _), World.cell?_setCell_other _ _ _ _ (hn _), World.cell?_setCell_other _ _ _ _ (hn _), World.cell?_setCell_other _ _ _ _ (hn _)]
    have g15 := numAt_but f15 b6.c0 k1
    have g19 := numAt_but f19 b6.c0 k1
    have q1 : Q w x1 := by subst h1; exact ((((q.set l6 _).set l6 _).set l6 _).set l6 _).set l6 _
    refine store_num t7 t19 b7' z7' (fun x2 _ h2 => ?_)
    have b7'' : Box5 x2 V7 k' s' p' L' C' e' m' := by
      obtain ⟨c0, c1, c2, c3, c4⟩ := b7'
      subst h2
      exact ⟨by simp [go_sem, c0, c1, c2, c3, c4], by simp [go_sem, c0, c1, c2, c3, c4], by simp [go_sem, c0, c1, c2, c3, c4], by simp [go_sem, c0, c1, c2, c3, c4], by simp [go_sem, c0, c1, c2, c3, c4]⟩
    have b6'' : Box5 x2 V6 k s p L C e m := by
      obtain ⟨c0, c1, c2, c3, c4⟩ := b6'
      subst h2
      exact ⟨by simp only [box_other n67]; exact c0, by simp only [box_other n67]; exact c1, by simp only [box_other n67]; exact c2, by simp only [box_other n67]; exact c3, by simp only [box_other n67]; exact c4⟩
    have q2 : Q w x2 := by subst h2; exact ((((q1.set l7 _).set l7 _).set l7 _).set l7 _).set l7 _
    have k2 : ∀ y : Addr, y.block ≠ V7 → x2.cell? y = x1.cell? y := fun y hy => by
      subst h2
      have hn : ∀ j, (⟨V7, j, none⟩ : Addr) ≠ y := fun j e => hy (by rw [← e])
      rw [World.cell?_setCell_other _ _ _ _ (hn _), World.cell?_setCell_other _ _ _ _ (hn _), World.cell?_setCell_other _ _ _ _ (hn _), World.cell?_setCell_other _ _ _ _ (hn _), World.cell?_setCell_other _ _ _ _ (hn _)]
    have j15 := numAt_but g15 b7'.c0 k2
    have j19 := numAt_but g19 b7'.c0 k2
    have hA := act_puts (a := a) (a0 := a0) [(12, v12), (13, v13), (14, v14), (15, num5 k s p L C e m), (16, v16), (17, v17), (18, v18), (19, num5 k' s' p' L' C' e' m'), (6, ptrV V6), (7, ptrV V7)] (by show s4.Nodup; decide) size defers other (fun r hr => by
      simp only [List.mem_cons, List.not_mem_nil, or_false] at hr
      rcases hr with rfl | rfl | rfl | rfl | rfl | rfl | rfl | rfl | rfl | rfl <;> assumption)
    rw [hA]
    exact hR x2 V6 V7 _ _ _ _ _ _ _ _ q2 ⟨k, s, p, L, C, e, m, b6'', j15⟩ ⟨k', s', p', L', C', e', m', b7'', j19⟩ n67
def sp7 (A B S1 S2 S3 S4 W1 W2 W3 W4 : Nat) (X Y Z N1 N2 N3 N4 : RNum) : List Sp := [.val (.int .u32 (A : Nat)), .val (.int .u32 (B : Nat)), .val (.int .u32 (S1 : Nat)), .val formV, .num X, .num Y, .num N1, .val (.int .u64 (W1 : Nat)), .val (.int .u32 (S1 : Nat)), .val (.bool true), .val (.bool true), .val (.int .u32 (A : Nat)), .val (.int .u32 (B : Nat)), .val (.int .u32 (S2 : Nat)), .val formV, .num X, .num Z, .num N2, .val (.int .u64 (W2 : Nat)), .val (.int .u32 (S2 : Nat)), .val (.bool true), .val (.bool true), .val (.bool true), .val (.int .u32 (A : Nat)), .val (.int .u32 (B : Nat)), .val (.int .u32 (S3 : Nat)), .val formV, .num X, .num Y, .num N3, .val (.int .u64 (W3 : Nat)), .val (.int .u32 (S3 : Nat)), .val (.bool true), .val (.bool true), .val (.bool true), .val (.int .u32 (A : Nat)), .val (.int .u32 (B : Nat)), .val (.int .u32 (S4 : Nat)), .val formV, .num X, .num Y, .num N4, .val (.int .u64 (W4 : Nat)), .val (.int .u32 (S4 : Nat)), .val (.bool true), .val (.bool true)]
structure Env7 (a0 : Act) (w : World) (A B pf V6 V7 V8 S1 S2 S3 S4 W1 W2 W3 W4 : Nat) (X Y Z N1 N2 N3 N4 : RNum) : Prop where
  h0 : a0.tmps[0]? = some (.int .u32 (A : Nat))
  h1 : a0.tmps[1]? = some (.int .u32 (B : Nat))
  h5 : a0.tmps[5]? = some (ptrV pf)
  h6 : a0.tmps[6]? = some (ptrV V6)
  h7 : a0.tmps[7]? = some (ptrV V7)
  h8 : a0.tmps[8]? = some (ptrV V8)
  fb : FBox w pf
  bX : NBox w V6 X
  bY : NBox w V7 Y
  bZ : NBox w V8 Z
  cS1 : ∀ x, Calls Try.prog 8 #[.int .u32 (A : Nat), .int .u32 (B : Nat)] x fun e x' => e = .returned (.int .u32 (S1 : Nat)) ∧ Q x x'
  cN1 : ∀ va vb x, NumAt x va X → NumAt x vb Y → Calls Try.prog 11 #[va, vb] x fun e x' => ∃ v, e = .returned v ∧ NumAt x' v N1 ∧ Q x x'
  cW1 : ∀ v x, NumAt x v N1 → Calls Try.prog 10 #[formV, v] x fun e x' => e = .returned (.int .u64 (W1 : Nat)) ∧ Q x x'
  cR1 : ∀ x, Calls Try.prog 9 #[.int .u64 (W1 : Nat)] x fun e x' => e = .returned (.int .u32 (S1 : Nat)) ∧ Q x x'
  cS2 : ∀ x, Calls Try.prog 12 #[.int .u32 (A : Nat), .int .u32 (B : Nat)] x fun e x' => e = .returned (.int .u32 (S2 : Nat)) ∧ Q x x'
  cN2 : ∀ va vb x, NumAt x va X → NumAt x vb Z → Calls Try.prog 11 #[va, vb] x fun e x' => ∃ v, e = .returned v ∧ NumAt x' v N2 ∧ Q x x'
  cW2 : ∀ v x, NumAt x v N2 → Calls Try.prog 10 #[formV, v] x fun e x' => e = .returned (.int .u64 (W2 : Nat)) ∧ Q x x'
  cR2 : ∀ x, Calls Try.prog 9 #[.int .u64 (W2 : Nat)] x fun e x' => e = .returned (.int .u32 (S2 : Nat)) ∧ Q x x'
  cS3 : ∀ x, Calls Try.prog 13 #[.int .u32 (A : Nat), .int .u32 (B : Nat)] x fun e x' => e = .returned (.int .u32 (S3 : Nat)) ∧ Q x x'
  cN3 : ∀ va vb x, NumAt x va X → NumAt x vb Y → Calls Try.prog 14 #[va, vb] x fun e x' => ∃ v, e = .returned v ∧ NumAt x' v N3 ∧ Q x x'
  cW3 : ∀ v x, NumAt x v N3 → Calls Try.prog 10 #[formV, v] x fun e x' => e = .returned (.int .u64 (W3 : Nat)) ∧ Q x x'
  cR3 : ∀ x, Calls Try.prog 9 #[.int .u64 (W3 : Nat)] x fun e x' => e = .returned (.int .u32 (S3 : Nat)) ∧ Q x x'
  cS4 : ∀ x, Calls Try.prog 15 #[.int .u32 (A : Nat), .int .u32 (B : Nat)] x fun e x' => e = .returned (.int .u32 (S4 : Nat)) ∧ Q x x'
  cN4 : ∀ va vb x, NumAt x va X → NumAt x vb Y → Calls Try.prog 16 #[va, vb] x fun e x' => ∃ v, e = .returned v ∧ NumAt x' v N4 ∧ Q x x'
  cW4 : ∀ v x, NumAt x v N4 → Calls Try.prog 10 #[formV, v] x fun e x' => e = .returned (.int .u64 (W4 : Nat)) ∧ Q x x'
  cR4 : ∀ x, Calls Try.prog 9 #[.int .u64 (W4 : Nat)] x fun e x' => e = .returned (.int .u32 (S4 : Nat)) ∧ Q x x'
theorem y7_0 {a0 : Act} {w : World} {A B pf V6 V7 V8 S1 S2 S3 S4 W1 W2 W3 W4 : Nat} {X Y Z N1 N2 N3 N4 : RNum} (E : Env7 a0 w A B pf V6 V7 V8 S1 S2 S3 S4 W1 W2 W3 W4 X Y Z N1 N2 N3 N4) {R : Exit → Act → World → Prop} {a : Act} {x : World} (q : Q w x) (oth : ∀ j, j ∉ s7 → a.tmps[j]? = a0.tmps[j]?) (dep : ∀ e ∈ o7_0.after, Region.binds .any e = true → ∀ t', s7[e.on]? = some t' → ∃ v, a.tmps[t']? = some v ∧ factOf (sp7 A B S1 S2 S3 S4 W1 W2 W3 W4 X Y Z N1 N2 N3 N4) e.on v x) : Yld Try.prog R o7_0 a x 25 (fun v x' => factOf (sp7 A B S1 S2 S3 S4 W1 W2 W3 W4 X Y Z N1 N2 N3 N4) 0 v x' ∧ (0 ∈ ([] : List Nat) → v = ptrV x.heap.size)) := by
  exact yld_move ((oth 0 (by decide)).trans E.h0) ⟨rfl, fun h => absurd h (by decide)⟩
theorem y7_1 {a0 : Act} {w : World} {A B pf V6 V7 V8 S1 S2 S3 S4 W1 W2 W3 W4 : Nat} {X Y Z N1 N2 N3 N4 : RNum} (E : Env7 a0 w A B pf V6 V7 V8 S1 S2 S3 S4 W1 W2 W3 W4 X Y Z N1 N2 N3 N4) {R : Exit → Act → World → Prop} {a : Act} {x : World} (q : Q w x) (oth : ∀ j, j ∉ s7 → a.tmps[j]? = a0.tmps[j]?) (dep : ∀ e ∈ o7_1.after, Region.binds .any e = true → ∀ t', s7[e.on]? = some t' → ∃ v, a.tmps[t']? = some v ∧ factOf (sp7 A B S1 S2 S3 S4 W1 W2 W3 W4 X Y Z N1 N2 N3 N4) e.on v x) : Yld Try.prog R o7_1 a x 26 (fun v x' => factOf (sp7 A B S1 S2 S3 S4 W1 W2 W3 W4 X Y Z N1 N2 N3 N4) 1 v x' ∧ (1 ∈ ([] : List Nat) → v = ptrV x.heap.size)) := by
  exact yld_move ((oth 1 (by decide)).trans E.h1) ⟨rfl, fun h => absurd h (by decide)⟩
theorem y7_2 {a0 : Act} {w : World} {A B pf V6 V7 V8 S1 S2 S3 S4 W1 W2 W3 W4 : Nat} {X Y Z N1 N2 N3 N4 : RNum} (E : Env7 a0 w A B pf V6 V7 V8 S1 S2 S3 S4 W1 W2 W3 W4 X Y Z N1 N2 N3 N4) {R : Exit → Act → World → Prop} {a : Act} {x : World} (q : Q w x) (oth : ∀ j, j ∉ s7 → a.tmps[j]? = a0.tmps[j]?) (dep : ∀ e ∈ o7_2.after, Region.binds .any e = true → ∀ t', s7[e.on]? = some t' → ∃ v, a.tmps[t']? = some v ∧ factOf (sp7 A B S1 S2 S3 S4 W1 W2 W3 W4 X Y Z N1 N2 N3 N4) e.on v x) : Yld Try.prog R o7_2 a x 27 (fun v x' => factOf (sp7 A B S1 S2 S3 S4 W1 W2 W3 W4 X Y Z N1 N2 N3 N4) 2 v x' ∧ (2 ∈ ([] : List Nat) → v = ptrV x.heap.size)) := by
  obtain ⟨v1, t1, f1⟩ := dep ⟨0, .data⟩ (by simp [o7_2]) rfl 25 rfl
  have f1 : v1 = (.int .u32 (A : Nat)) := f1
  subst f1
  obtain ⟨v2, t2, f2⟩ := dep ⟨1, .data⟩ (by simp [o7_2]) rfl 26 rfl
  have f2 : v2 = (.int .u32 (B : Nat)) := f2
  subst f2
  refine yld_call (enters_of Try.func8 (by kernel_rfl) rfl) (args2 t1 t2) ((E.cS1 x).mono ?_)
  rintro e x' ⟨rfl, q'⟩
  exact ⟨_, rfl, q', rfl, fun h => absurd h (by decide)⟩
theorem y7_3 {a0 : Act} {w : World} {A B pf V6 V7 V8 S1 S2 S3 S4 W1 W2 W3 W4 : Nat} {X Y Z N1 N2 N3 N4 : RNum} (E : Env7 a0 w A B pf V6 V7 V8 S1 S2 S3 S4 W1 W2 W3 W4 X Y Z N1 N2 N3 N4) {R : Exit → Act → World → Prop} {a : Act} {x : World} (q : Q w x) (oth : ∀ j, j ∉ s7 → a.tmps[j]? = a0.tmps[j]?) (dep : ∀ e ∈ o7_3.after, Region.binds .any e = true → ∀ t', s7[e.on]? = some t' → ∃ v, a.tmps[t']? = some v ∧ factOf (sp7 A B S1 S2 S3 S4 W1 W2 W3 W4 X Y Z N1 N2 N3 N4) e.on v x) : Yld Try.prog R o7_3 a x 28 (fun v x' => factOf (sp7 A B S1 S2 S3 S4 W1 W2 W3 W4 X Y Z N1 N2 N3 N4) 3 v x' ∧ (3 ∈ ([] : List Nat) → v = ptrV x.heap.size)) := by
  exact yld_run (x' := x) rfl (run_form (tmp_eval ((oth 5 (by decide)).trans E.h5)) (E.fb.next q)) (Q.refl x) ⟨rfl, fun h => absurd h (by decide)⟩
theorem y7_4 {a0 : Act} {w : World} {A B pf V6 V7 V8 S1 S2 S3 S4 W1 W2 W3 W4 : Nat} {X Y Z N1 N2 N3 N4 : RNum} (E : Env7 a0 w A B pf V6 V7 V8 S1 S2 S3 S4 W1 W2 W3 W4 X Y Z N1 N2 N3 N4) {R : Exit → Act → World → Prop} {a : Act} {x : World} (q : Q w x) (oth : ∀ j, j ∉ s7 → a.tmps[j]? = a0.tmps[j]?) (dep : ∀ e ∈ o7_4.after, Region.binds .any e = true → ∀ t', s7[e.on]? = some t' → ∃ v, a.tmps[t']? = some v ∧ factOf (sp7 A B S1 S2 S3 S4 W1 W2 W3 W4 X Y Z N1 N2 N3 N4) e.on v x) : Yld Try.prog R o7_4 a x 29 (fun v x' => factOf (sp7 A B S1 S2 S3 S4 W1 W2 W3 W4 X Y Z N1 N2 N3 N4) 4 v x' ∧ (4 ∈ ([] : List Nat) → v = ptrV x.heap.size)) := by
  obtain ⟨k, s, p, L, C, e, m, b1, b2⟩ := E.bX.next q
  exact yld_run (x' := x) rfl (run_num (tmp_eval ((oth 6 (by decide)).trans E.h6)) b1) (Q.refl x) ⟨b2, fun h => absurd h (by decide)⟩
theorem y7_5 {a0 : Act} {w : World} {A B pf V6 V7 V8 S1 S2 S3 S4 W1 W2 W3 W4 : Nat} {X Y Z N1 N2 N3 N4 : RNum} (E : Env7 a0 w A B pf V6 V7 V8 S1 S2 S3 S4 W1 W2 W3 W4 X Y Z N1 N2 N3 N4) {R : Exit → Act → World → Prop} {a : Act} {x : World} (q : Q w x) (oth : ∀ j, j ∉ s7 → a.tmps[j]? = a0.tmps[j]?) (dep : ∀ e ∈ o7_5.after, Region.binds .any e = true → ∀ t', s7[e.on]? = some t' → ∃ v, a.tmps[t']? = some v ∧ factOf (sp7 A B S1 S2 S3 S4 W1 W2 W3 W4 X Y Z N1 N2 N3 N4) e.on v x) : Yld Try.prog R o7_5 a x 30 (fun v x' => factOf (sp7 A B S1 S2 S3 S4 W1 W2 W3 W4 X Y Z N1 N2 N3 N4) 5 v x' ∧ (5 ∈ ([] : List Nat) → v = ptrV x.heap.size)) := by
  obtain ⟨k, s, p, L, C, e, m, b1, b2⟩ := E.bY.next q
  exact yld_run (x' := x) rfl (run_num (tmp_eval ((oth 7 (by decide)).trans E.h7)) b1) (Q.refl x) ⟨b2, fun h => absurd h (by decide)⟩
theorem y7_6 {a0 : Act} {w : World} {A B pf V6 V7 V8 S1 S2 S3 S4 W1 W2 W3 W4 : Nat} {X Y Z N1 N2 N3 N4 : RNum} (E : Env7 a0 w A B pf V6 V7 V8 S1 S2 S3 S4 W1 W2 W3 W4 X Y Z N1 N2 N3 N4) {R : Exit → Act → World → Prop} {a : Act} {x : World} (q : Q w x) (oth : ∀ j, j ∉ s7 → a.tmps[j]? = a0.tmps[j]?) (dep : ∀ e ∈ o7_6.after, Region.binds .any e = true → ∀ t', s7[e.on]? = some t' → ∃ v, a.tmps[t']? = some v ∧ factOf (sp7 A B S1 S2 S3 S4 W1 W2 W3 W4 X Y Z N1 N2 N3 N4) e.on v x) : Yld Try.prog R o7_6 a x 31 (fun v x' => factOf (sp7 A B S1 S2 S3 S4 W1 W2 W3 W4 X Y Z N1 N2 N3 N4) 6 v x' ∧ (6 ∈ ([] : List Nat) → v = ptrV x.heap.size)) := by
  obtain ⟨v1, t1, f1⟩ := dep ⟨4, .data⟩ (by simp [o7_6]) rfl 29 rfl
  have f1 : NumAt x v1 X := f1
  obtain ⟨v2, t2, f2⟩ := dep ⟨5, .data⟩ (by simp [o7_6]) rfl 30 rfl
  have f2 : NumAt x v2 Y := f2
  refine yld_call (enters_of Try.func11 (by kernel_rfl) rfl) (args2 t1 t2) ((E.cN1 _ _ x f1 f2).mono ?_)
  rintro e x' ⟨v, rfl, h, q'⟩
  exact ⟨v, rfl, q', h, fun h => absurd h (by decide)⟩
theorem y7_7 {a0 : Act} {w : World} {A B pf V6 V7 V8 S1 S2 S3 S4 W1 W2 W3 W4 : Nat} {X Y Z N1 N2 N3 N4 : RNum} (E : Env7 a0 w A B pf V6 V7 V8 S1 S2 S3 S4 W1 W2 W3 W4 X Y Z N1 N2 N3 N4) {R : Exit → Act → World → Prop} {a : Act} {x : World} (q : Q w x) (oth : ∀ j, j ∉ s7 → a.tmps[j]? = a0.tmps[j]?) (dep : ∀ e ∈ o7_7.after, Region.binds .any e = true → ∀ t', s7[e.on]? = some t' → ∃ v, a.tmps[t']? = some v ∧ factOf (sp7 A B S1 S2 S3 S4 W1 W2 W3 W4 X Y Z N1 N2 N3 N4) e.on v x) : Yld Try.prog R o7_7 a x 32 (fun v x' => factOf (sp7 A B S1 S2 S3 S4 W1 W2 W3 W4 X Y Z N1 N2 N3 N4) 7 v x' ∧ (7 ∈ ([] : List Nat) → v = ptrV x.heap.size)) := by
  obtain ⟨v1, t1, f1⟩ := dep ⟨3, .data⟩ (by simp [o7_7]) rfl 28 rfl
  have f1 : v1 = formV := f1
  subst f1
  obtain ⟨v2, t2, f2⟩ := dep ⟨6, .data⟩ (by simp [o7_7]) rfl 31 rfl
  have f2 : NumAt x v2 N1 := f2
  refine yld_call (enters_of Try.func10 (by kernel_rfl) rfl) (args2 t1 t2) ((E.cW1 _ x f2).mono ?_)
  rintro e x' ⟨rfl, q'⟩
  exact ⟨_, rfl, q', rfl, fun h => absurd h (by decide)⟩
theorem y7_8 {a0 : Act} {w : World} {A B pf V6 V7 V8 S1 S2 S3 S4 W1 W2 W3 W4 : Nat} {X Y Z N1 N2 N3 N4 : RNum} (E : Env7 a0 w A B pf V6 V7 V8 S1 S2 S3 S4 W1 W2 W3 W4 X Y Z N1 N2 N3 N4) {R : Exit → Act → World → Prop} {a : Act} {x : World} (q : Q w x) (oth : ∀ j, j ∉ s7 → a.tmps[j]? = a0.tmps[j]?) (dep : ∀ e ∈ o7_8.after, Region.binds .any e = true → ∀ t', s7[e.on]? = some t' → ∃ v, a.tmps[t']? = some v ∧ factOf (sp7 A B S1 S2 S3 S4 W1 W2 W3 W4 X Y Z N1 N2 N3 N4) e.on v x) : Yld Try.prog R o7_8 a x 33 (fun v x' => factOf (sp7 A B S1 S2 S3 S4 W1 W2 W3 W4 X Y Z N1 N2 N3 N4) 8 v x' ∧ (8 ∈ ([] : List Nat) → v = ptrV x.heap.size)) := by
  obtain ⟨v1, t1, f1⟩ := dep ⟨7, .data⟩ (by simp [o7_8]) rfl 32 rfl
  have f1 : v1 = (.int .u64 (W1 : Nat)) := f1
  subst f1
  refine yld_call (enters_of Try.func9 (by kernel_rfl) rfl) (args1 t1) ((E.cR1 x).mono ?_)
  rintro e x' ⟨rfl, q'⟩
  exact ⟨_, rfl, q', rfl, fun h => absurd h (by decide)⟩
theorem y7_9 {a0 : Act} {w : World} {A B pf V6 V7 V8 S1 S2 S3 S4 W1 W2 W3 W4 : Nat} {X Y Z N1 N2 N3 N4 : RNum} (E : Env7 a0 w A B pf V6 V7 V8 S1 S2 S3 S4 W1 W2 W3 W4 X Y Z N1 N2 N3 N4) {R : Exit → Act → World → Prop} {a : Act} {x : World} (q : Q w x) (oth : ∀ j, j ∉ s7 → a.tmps[j]? = a0.tmps[j]?) (dep : ∀ e ∈ o7_9.after, Region.binds .any e = true → ∀ t', s7[e.on]? = some t' → ∃ v, a.tmps[t']? = some v ∧ factOf (sp7 A B S1 S2 S3 S4 W1 W2 W3 W4 X Y Z N1 N2 N3 N4) e.on v x) : Yld Try.prog R o7_9 a x 34 (fun v x' => factOf (sp7 A B S1 S2 S3 S4 W1 W2 W3 W4 X Y Z N1 N2 N3 N4) 9 v x' ∧ (9 ∈ ([] : List Nat) → v = ptrV x.heap.size)) := by
  obtain ⟨v1, t1, f1⟩ := dep ⟨2, .data⟩ (by simp [o7_9]) rfl 27 rfl
  have f1 : v1 = (.int .u32 (S1 : Nat)) := f1
  subst f1
  obtain ⟨v2, t2, f2⟩ := dep ⟨8, .data⟩ (by simp [o7_9]) rfl 33 rfl
  have f2 : v2 = (.int .u32 (S1 : Nat)) := f2
  subst f2
  exact yld_run (x' := x) rfl (run_eql (tmp_eval t1) (tmp_eval t2)) (Q.refl x) ⟨rfl, fun h => absurd h (by decide)⟩
theorem y7_10 {a0 : Act} {w : World} {A B pf V6 V7 V8 S1 S2 S3 S4 W1 W2 W3 W4 : Nat} {X Y Z N1 N2 N3 N4 : RNum} (E : Env7 a0 w A B pf V6 V7 V8 S1 S2 S3 S4 W1 W2 W3 W4 X Y Z N1 N2 N3 N4) {R : Exit → Act → World → Prop} {a : Act} {x : World} (q : Q w x) (oth : ∀ j, j ∉ s7 → a.tmps[j]? = a0.tmps[j]?) (dep : ∀ e ∈ o7_10.after, Region.binds .any e = true → ∀ t', s7[e.on]? = some t' → ∃ v, a.tmps[t']? = some v ∧ factOf (sp7 A B S1 S2 S3 S4 W1 W2 W3 W4 X Y Z N1 N2 N3 N4) e.on v x) : Yld Try.prog R o7_10 a x 35 (fun v x' => factOf (sp7 A B S1 S2 S3 S4 W1 W2 W3 W4 X Y Z N1 N2 N3 N4) 10 v x' ∧ (10 ∈ ([] : List Nat) → v = ptrV x.heap.size)) := by
  obtain ⟨v1, t1, f1⟩ := dep ⟨9, .data⟩ (by simp [o7_10]) rfl 34 rfl
  have f1 : v1 = (.bool true) := f1
  subst f1
  exact yld_move t1 ⟨rfl, fun h => absurd h (by decide)⟩
theorem y7_11 {a0 : Act} {w : World} {A B pf V6 V7 V8 S1 S2 S3 S4 W1 W2 W3 W4 : Nat} {X Y Z N1 N2 N3 N4 : RNum} (E : Env7 a0 w A B pf V6 V7 V8 S1 S2 S3 S4 W1 W2 W3 W4 X Y Z N1 N2 N3 N4) {R : Exit → Act → World → Prop} {a : Act} {x : World} (q : Q w x) (oth : ∀ j, j ∉ s7 → a.tmps[j]? = a0.tmps[j]?) (dep : ∀ e ∈ o7_11.after, Region.binds .any e = true → ∀ t', s7[e.on]? = some t' → ∃ v, a.tmps[t']? = some v ∧ factOf (sp7 A B S1 S2 S3 S4 W1 W2 W3 W4 X Y Z N1 N2 N3 N4) e.on v x) : Yld Try.prog R o7_11 a x 36 (fun v x' => factOf (sp7 A B S1 S2 S3 S4 W1 W2 W3 W4 X Y Z N1 N2 N3 N4) 11 v x' ∧ (11 ∈ ([] : List Nat) → v = ptrV x.heap.size)) := by
  exact yld_move ((oth 0 (by decide)).trans E.h0) ⟨rfl, fun h => absurd h (by decide)⟩
theorem y7_12 {a0 : Act} {w : World} {A B pf V6 V7 V8 S1 S2 S3 S4 W1 W2 W3 W4 : Nat} {X Y Z N1 N2 N3 N4 : RNum} (E : Env7 a0 w A B pf V6 V7 V8 S1 S2 S3 S4 W1 W2 W3 W4 X Y Z N1 N2 N3 N4) {R : Exit → Act → World → Prop} {a : Act} {x : World} (q : Q w x) (oth : ∀ j, j ∉ s7 → a.tmps[j]? = a0.tmps[j]?) (dep : ∀ e ∈ o7_12.after, Region.binds .any e = true → ∀ t', s7[e.on]? = some t' → ∃ v, a.tmps[t']? = some v ∧ factOf (sp7 A B S1 S2 S3 S4 W1 W2 W3 W4 X Y Z N1 N2 N3 N4) e.on v x) : Yld Try.prog R o7_12 a x 37 (fun v x' => factOf (sp7 A B S1 S2 S3 S4 W1 W2 W3 W4 X Y Z N1 N2 N3 N4) 12 v x' ∧ (12 ∈ ([] : List Nat) → v = ptrV x.heap.size)) := by
  exact yld_move ((oth 1 (by decide)).trans E.h1) ⟨rfl, fun h => absurd h (by decide)⟩
theorem y7_13 {a0 : Act} {w : World} {A B pf V6 V7 V8 S1 S2 S3 S4 W1 W2 W3 W4 : Nat} {X Y Z N1 N2 N3 N4 : RNum} (E : Env7 a0 w A B pf V6 V7 V8 S1 S2 S3 S4 W1 W2 W3 W4 X Y Z N1 N2 N3 N4) {R : Exit → Act → World → Prop} {a : Act} {x : World} (q : Q w x) (oth : ∀ j, j ∉ s7 → a.tmps[j]? = a0.tmps[j]?) (dep : ∀ e ∈ o7_13.after, Region.binds .any e = true → ∀ t', s7[e.on]? = some t' → ∃ v, a.tmps[t']? = some v ∧ factOf (sp7 A B S1 S2 S3 S4 W1 W2 W3 W4 X Y Z N1 N2 N3 N4) e.on v x) : Yld Try.prog R o7_13 a x 38 (fun v x' => factOf (sp7 A B S1 S2 S3 S4 W1 W2 W3 W4 X Y Z N1 N2 N3 N4) 13 v x' ∧ (13 ∈ ([] : List Nat) → v = ptrV x.heap.size)) := by
  obtain ⟨v1, t1, f1⟩ := dep ⟨11, .data⟩ (by simp [o7_13]) rfl 36 rfl
  have f1 : v1 = (.int .u32 (A : Nat)) := f1
  subst f1
  obtain ⟨v2, t2, f2⟩ := dep ⟨12, .data⟩ (by simp [o7_13]) rfl 37 rfl
  have f2 : v2 = (.int .u32 (B : Nat)) := f2
  subst f2
  refine yld_call (enters_of Try.func12 (by kernel_rfl) rfl) (args2 t1 t2) ((E.cS2 x).mono ?_)
  rintro e x' ⟨rfl, q'⟩
  exact ⟨_, rfl, q', rfl, fun h => absurd h (by decide)⟩
theorem y7_14 {a0 : Act} {w : World} {A B pf V6 V7 V8 S1 S2 S3 S4 W1 W2 W3 W4 : Nat} {X Y Z N1 N2 N3 N4 : RNum} (E : Env7 a0 w A B pf V6 V7 V8 S1 S2 S3 S4 W1 W2 W3 W4 X Y Z N1 N2 N3 N4) {R : Exit → Act → World → Prop} {a : Act} {x : World} (q : Q w x) (oth : ∀ j, j ∉ s7 → a.tmps[j]? = a0.tmps[j]?) (dep : ∀ e ∈ o7_14.after, Region.binds .any e = true → ∀ t', s7[e.on]? = some t' → ∃ v, a.tmps[t']? = some v ∧ factOf (sp7 A B S1 S2 S3 S4 W1 W2 W3 W4 X Y Z N1 N2 N3 N4) e.on v x) : Yld Try.prog R o7_14 a x 39 (fun v x' => factOf (sp7 A B S1 S2 S3 S4 W1 W2 W3 W4 X Y Z N1 N2 N3 N4) 14 v x' ∧ (14 ∈ ([] : List Nat) → v = ptrV x.heap.size)) := by
  exact yld_run (x' := x) rfl (run_form (tmp_eval ((oth 5 (by decide)).trans E.h5)) (E.fb.next q)) (Q.refl x) ⟨rfl, fun h => absurd h (by decide)⟩
theorem y7_15 {a0 : Act} {w : World} {A B pf V6 V7 V8 S1 S2 S3 S4 W1 W2 W3 W4 : Nat} {X Y Z N1 N2 N3 N4 : RNum} (E : Env7 a0 w A B pf V6 V7 V8 S1 S2 S3 S4 W1 W2 W3 W4 X Y Z N1 N2 N3 N4) {R : Exit → Act → World → Prop} {a : Act} {x : World} (q : Q w x) (oth : ∀ j, j ∉ s7 → a.tmps[j]? = a0.tmps[j]?) (dep : ∀ e ∈ o7_15.after, Region.binds .any e = true → ∀ t', s7[e.on]? = some t' → ∃ v, a.tmps[t']? = some v ∧ factOf (sp7 A B S1 S2 S3 S4 W1 W2 W3 W4 X Y Z N1 N2 N3 N4) e.on v x) : Yld Try.prog R o7_15 a x 40 (fun v x' => factOf (sp7 A B S1 S2 S3 S4 W1 W2 W3 W4 X Y Z N1 N2 N3 N4) 15 v x' ∧ (15 ∈ ([] : List Nat) → v = ptrV x.heap.size)) := by
  obtain ⟨k, s, p, L, C, e, m, b1, b2⟩ := E.bX.next q
  exact yld_run (x' := x) rfl (run_num (tmp_eval ((oth 6 (by decide)).trans E.h6)) b1) (Q.refl x) ⟨b2, fun h => absurd h (by decide)⟩
theorem y7_16 {a0 : Act} {w : World} {A B pf V6 V7 V8 S1 S2 S3 S4 W1 W2 W3 W4 : Nat} {X Y Z N1 N2 N3 N4 : RNum} (E : Env7 a0 w A B pf V6 V7 V8 S1 S2 S3 S4 W1 W2 W3 W4 X Y Z N1 N2 N3 N4) {R : Exit → Act → World → Prop} {a : Act} {x : World} (q : Q w x) (oth : ∀ j, j ∉ s7 → a.tmps[j]? = a0.tmps[j]?) (dep : ∀ e ∈ o7_16.after, Region.binds .any e = true → ∀ t', s7[e.on]? = some t' → ∃ v, a.tmps[t']? = some v ∧ factOf (sp7 A B S1 S2 S3 S4 W1 W2 W3 W4 X Y Z N1 N2 N3 N4) e.on v x) : Yld Try.prog R o7_16 a x 41 (fun v x' => factOf (sp7 A B S1 S2 S3 S4 W1 W2 W3 W4 X Y Z N1 N2 N3 N4) 16 v x' ∧ (16 ∈ ([] : List Nat) → v = ptrV x.heap.size)) := by
  obtain ⟨k, s, p, L, C, e, m, b1, b2⟩ := E.bZ.next q
  exact yld_run (x' := x) rfl (run_num (tmp_eval ((oth 8 (by decide)).trans E.h8)) b1) (Q.refl x) ⟨b2, fun h => absurd h (by decide)⟩
theorem y7_17 {a0 : Act} {w : World} {A B pf V6 V7 V8 S1 S2 S3 S4 W1 W2 W3 W4 : Nat} {X Y Z N1 N2 N3 N4 : RNum} (E : Env7 a0 w A B pf V6 V7 V8 S1 S2 S3 S4 W1 W2 W3 W4 X Y Z N1 N2 N3 N4) {R : Exit → Act → World → Prop} {a : Act} {x : World} (q : Q w x) (oth : ∀ j, j ∉ s7 → a.tmps[j]? = a0.tmps[j]?) (dep : ∀ e ∈ o7_17.after, Region.binds .any e = true → ∀ t', s7[e.on]? = some t' → ∃ v, a.tmps[t']? = some v ∧ factOf (sp7 A B S1 S2 S3 S4 W1 W2 W3 W4 X Y Z N1 N2 N3 N4) e.on v x) : Yld Try.prog R o7_17 a x 42 (fun v x' => factOf (sp7 A B S1 S2 S3 S4 W1 W2 W3 W4 X Y Z N1 N2 N3 N4) 17 v x' ∧ (17 ∈ ([] : List Nat) → v = ptrV x.heap.size)) := by
  obtain ⟨v1, t1, f1⟩ := dep ⟨15, .data⟩ (by simp [o7_17]) rfl 40 rfl
  have f1 : NumAt x v1 X := f1
  obtain ⟨v2, t2, f2⟩ := dep ⟨16, .data⟩ (by simp [o7_17]) rfl 41 rfl
  have f2 : NumAt x v2 Z := f2
  refine yld_call (enters_of Try.func11 (by kernel_rfl) rfl) (args2 t1 t2) ((E.cN2 _ _ x f1 f2).mono ?_)
  rintro e x' ⟨v, rfl, h, q'⟩
  exact ⟨v, rfl, q', h, fun h => absurd h (by decide)⟩
theorem y7_18 {a0 : Act} {w : World} {A B pf V6 V7 V8 S1 S2 S3 S4 W1 W2 W3 W4 : Nat} {X Y Z N1 N2 N3 N4 : RNum} (E : Env7 a0 w A B pf V6 V7 V8 S1 S2 S3 S4 W1 W2 W3 W4 X Y Z N1 N2 N3 N4) {R : Exit → Act → World → Prop} {a : Act} {x : World} (q : Q w x) (oth : ∀ j, j ∉ s7 → a.tmps[j]? = a0.tmps[j]?) (dep : ∀ e ∈ o7_18.after, Region.binds .any e = true → ∀ t', s7[e.on]? = some t' → ∃ v, a.tmps[t']? = some v ∧ factOf (sp7 A B S1 S2 S3 S4 W1 W2 W3 W4 X Y Z N1 N2 N3 N4) e.on v x) : Yld Try.prog R o7_18 a x 43 (fun v x' => factOf (sp7 A B S1 S2 S3 S4 W1 W2 W3 W4 X Y Z N1 N2 N3 N4) 18 v x' ∧ (18 ∈ ([] : List Nat) → v = ptrV x.heap.size)) := by
  obtain ⟨v1, t1, f1⟩ := dep ⟨14, .data⟩ (by simp [o7_18]) rfl 39 rfl
  have f1 : v1 = formV := f1
  subst f1
  obtain ⟨v2, t2, f2⟩ := dep ⟨17, .data⟩ (by simp [o7_18]) rfl 42 rfl
  have f2 : NumAt x v2 N2 := f2
  refine yld_call (enters_of Try.func10 (by kernel_rfl) rfl) (args2 t1 t2) ((E.cW2 _ x f2).mono ?_)
  rintro e x' ⟨rfl, q'⟩
  exact ⟨_, rfl, q', rfl, fun h => absurd h (by decide)⟩
theorem y7_19 {a0 : Act} {w : World} {A B pf V6 V7 V8 S1 S2 S3 S4 W1 W2 W3 W4 : Nat} {X Y Z N1 N2 N3 N4 : RNum} (E : Env7 a0 w A B pf V6 V7 V8 S1 S2 S3 S4 W1 W2 W3 W4 X Y Z N1 N2 N3 N4) {R : Exit → Act → World → Prop} {a : Act} {x : World} (q : Q w x) (oth : ∀ j, j ∉ s7 → a.tmps[j]? = a0.tmps[j]?) (dep : ∀ e ∈ o7_19.after, Region.binds .any e = true → ∀ t', s7[e.on]? = some t' → ∃ v, a.tmps[t']? = some v ∧ factOf (sp7 A B S1 S2 S3 S4 W1 W2 W3 W4 X Y Z N1 N2 N3 N4) e.on v x) : Yld Try.prog R o7_19 a x 44 (fun v x' => factOf (sp7 A B S1 S2 S3 S4 W1 W2 W3 W4 X Y Z N1 N2 N3 N4) 19 v x' ∧ (19 ∈ ([] : List Nat) → v = ptrV x.heap.size)) := by
  obtain ⟨v1, t1, f1⟩ := dep ⟨18, .data⟩ (by simp [o7_19]) rfl 43 rfl
  have f1 : v1 = (.int .u64 (W2 : Nat)) := f1
  subst f1
  refine yld_call (enters_of Try.func9 (by kernel_rfl) rfl) (args1 t1) ((E.cR2 x).mono ?_)
  rintro e x' ⟨rfl, q'⟩
  exact ⟨_, rfl, q', rfl, fun h => absurd h (by decide)⟩
theorem y7_20 {a0 : Act} {w : World} {A B pf V6 V7 V8 S1 S2 S3 S4 W1 W2 W3 W4 : Nat} {X Y Z N1 N2 N3 N4 : RNum} (E : Env7 a0 w A B pf V6 V7 V8 S1 S2 S3 S4 W1 W2 W3 W4 X Y Z N1 N2 N3 N4) {R : Exit → Act → World → Prop} {a : Act} {x : World} (q : Q w x) (oth : ∀ j, j ∉ s7 → a.tmps[j]? = a0.tmps[j]?) (dep : ∀ e ∈ o7_20.after, Region.binds .any e = true → ∀ t', s7[e.on]? = some t' → ∃ v, a.tmps[t']? = some v ∧ factOf (sp7 A B S1 S2 S3 S4 W1 W2 W3 W4 X Y Z N1 N2 N3 N4) e.on v x) : Yld Try.prog R o7_20 a x 45 (fun v x' => factOf (sp7 A B S1 S2 S3 S4 W1 W2 W3 W4 X Y Z N1 N2 N3 N4) 20 v x' ∧ (20 ∈ ([] : List Nat) → v = ptrV x.heap.size)) := by
  obtain ⟨v1, t1, f1⟩ := dep ⟨13, .data⟩ (by simp [o7_20]) rfl 38 rfl
  have f1 : v1 = (.int .u32 (S2 : Nat)) := f1
  subst f1
  obtain ⟨v2, t2, f2⟩ := dep ⟨19, .data⟩ (by simp [o7_20]) rfl 44 rfl
  have f2 : v2 = (.int .u32 (S2 : Nat)) := f2
  subst f2
  exact yld_run (x' := x) rfl (run_eql (tmp_eval t1) (tmp_eval t2)) (Q.refl x) ⟨rfl, fun h => absurd h (by decide)⟩
theorem y7_21 {a0 : Act} {w : World} {A B pf V6 V7 V8 S1 S2 S3 S4 W1 W2 W3 W4 : Nat} {X Y Z N1 N2 N3 N4 : RNum} (E : Env7 a0 w A B pf V6 V7 V8 S1 S2 S3 S4 W1 W2 W3 W4 X Y Z N1 N2 N3 N4) {R : Exit → Act → World → Prop} {a : Act} {x : World} (q : Q w x) (oth : ∀ j, j ∉ s7 → a.tmps[j]? = a0.tmps[j]?) (dep : ∀ e ∈ o7_21.after, Region.binds .any e = true → ∀ t', s7[e.on]? = some t' → ∃ v, a.tmps[t']? = some v ∧ factOf (sp7 A B S1 S2 S3 S4 W1 W2 W3 W4 X Y Z N1 N2 N3 N4) e.on v x) : Yld Try.prog R o7_21 a x 46 (fun v x' => factOf (sp7 A B S1 S2 S3 S4 W1 W2 W3 W4 X Y Z N1 N2 N3 N4) 21 v x' ∧ (21 ∈ ([] : List Nat) → v = ptrV x.heap.size)) := by
  obtain ⟨v1, t1, f1⟩ := dep ⟨10, .data⟩ (by simp [o7_21]) rfl 35 rfl
  have f1 : v1 = (.bool true) := f1
  subst f1
  obtain ⟨v2, t2, f2⟩ := dep ⟨20, .data⟩ (by simp [o7_21]) rfl 45 rfl
  have f2 : v2 = (.bool true) := f2
  subst f2
  exact yld_pick t1 t2 ⟨rfl, fun h => absurd h (by decide)⟩
theorem y7_22 {a0 : Act} {w : World} {A B pf V6 V7 V8 S1 S2 S3 S4 W1 W2 W3 W4 : Nat} {X Y Z N1 N2 N3 N4 : RNum} (E : Env7 a0 w A B pf V6 V7 V8 S1 S2 S3 S4 W1 W2 W3 W4 X Y Z N1 N2 N3 N4) {R : Exit → Act → World → Prop} {a : Act} {x : World} (q : Q w x) (oth : ∀ j, j ∉ s7 → a.tmps[j]? = a0.tmps[j]?) (dep : ∀ e ∈ o7_22.after, Region.binds .any e = true → ∀ t', s7[e.on]? = some t' → ∃ v, a.tmps[t']? = some v ∧ factOf (sp7 A B S1 S2 S3 S4 W1 W2 W3 W4 X Y Z N1 N2 N3 N4) e.on v x) : Yld Try.prog R o7_22 a x 47 (fun v x' => factOf (sp7 A B S1 S2 S3 S4 W1 W2 W3 W4 X Y Z N1 N2 N3 N4) 22 v x' ∧ (22 ∈ ([] : List Nat) → v = ptrV x.heap.size)) := by
  obtain ⟨v1, t1, f1⟩ := dep ⟨21, .data⟩ (by simp [o7_22]) rfl 46 rfl
  have f1 : v1 = (.bool true) := f1
  subst f1
  exact yld_move t1 ⟨rfl, fun h => absurd h (by decide)⟩
theorem y7_23 {a0 : Act} {w : World} {A B pf V6 V7 V8 S1 S2 S3 S4 W1 W2 W3 W4 : Nat} {X Y Z N1 N2 N3 N4 : RNum} (E : Env7 a0 w A B pf V6 V7 V8 S1 S2 S3 S4 W1 W2 W3 W4 X Y Z N1 N2 N3 N4) {R : Exit → Act → World → Prop} {a : Act} {x : World} (q : Q w x) (oth : ∀ j, j ∉ s7 → a.tmps[j]? = a0.tmps[j]?) (dep : ∀ e ∈ o7_23.after, Region.binds .any e = true → ∀ t', s7[e.on]? = some t' → ∃ v, a.tmps[t']? = some v ∧ factOf (sp7 A B S1 S2 S3 S4 W1 W2 W3 W4 X Y Z N1 N2 N3 N4) e.on v x) : Yld Try.prog R o7_23 a x 48 (fun v x' => factOf (sp7 A B S1 S2 S3 S4 W1 W2 W3 W4 X Y Z N1 N2 N3 N4) 23 v x' ∧ (23 ∈ ([] : List Nat) → v = ptrV x.heap.size)) := by
  exact yld_move ((oth 0 (by decide)).trans E.h0) ⟨rfl, fun h => absurd h (by decide)⟩
theorem y7_24 {a0 : Act} {w : World} {A B pf V6 V7 V8 S1 S2 S3 S4 W1 W2 W3 W4 : Nat} {X Y Z N1 N2 N3 N4 : RNum} (E : Env7 a0 w A B pf V6 V7 V8 S1 S2 S3 S4 W1 W2 W3 W4 X Y Z N1 N2 N3 N4) {R : Exit → Act → World → Prop} {a : Act} {x : World} (q : Q w x) (oth : ∀ j, j ∉ s7 → a.tmps[j]? = a0.tmps[j]?) (dep : ∀ e ∈ o7_24.after, Region.binds .any e = true → ∀ t', s7[e.on]? = some t' → ∃ v, a.tmps[t']? = some v ∧ factOf (sp7 A B S1 S2 S3 S4 W1 W2 W3 W4 X Y Z N1 N2 N3 N4) e.on v x) : Yld Try.prog R o7_24 a x 49 (fun v x' => factOf (sp7 A B S1 S2 S3 S4 W1 W2 W3 W4 X Y Z N1 N2 N3 N4) 24 v x' ∧ (24 ∈ ([] : List Nat) → v = ptrV x.heap.size)) := by
  exact yld_move ((oth 1 (by decide)).trans E.h1) ⟨rfl, fun h => absurd h (by decide)⟩
theorem y7_25 {a0 : Act} {w : World} {A B pf V6 V7 V8 S1 S2 S3 S4 W1 W2 W3 W4 : Nat} {X Y Z N1 N2 N3 N4 : RNum} (E : Env7 a0 w A B pf V6 V7 V8 S1 S2 S3 S4 W1 W2 W3 W4 X Y Z N1 N2 N3 N4) {R : Exit → Act → World → Prop} {a : Act} {x : World} (q : Q w x) (oth : ∀ j, j ∉ s7 → a.tmps[j]? = a0.tmps[j]?) (dep : ∀ e ∈ o7_25.after, Region.binds .any e = true → ∀ t', s7[e.on]? = some t' → ∃ v, a.tmps[t']? = some v ∧ factOf (sp7 A B S1 S2 S3 S4 W1 W2 W3 W4 X Y Z N1 N2 N3 N4) e.on v x) : Yld Try.prog R o7_25 a x 50 (fun v x' => factOf (sp7 A B S1 S2 S3 S4 W1 W2 W3 W4 X Y Z N1 N2 N3 N4) 25 v x' ∧ (25 ∈ ([] : List Nat) → v = ptrV x.heap.size)) := by
  obtain ⟨v1, t1, f1⟩ := dep ⟨23, .data⟩ (by simp [o7_25]) rfl 48 rfl
  have f1 : v1 = (.int .u32 (A : Nat)) := f1
  subst f1
  obtain ⟨v2, t2, f2⟩ := dep ⟨24, .data⟩ (by simp [o7_25]) rfl 49 rfl
  have f2 : v2 = (.int .u32 (B : Nat)) := f2
  subst f2
  refine yld_call (enters_of Try.func13 (by kernel_rfl) rfl) (args2 t1 t2) ((E.cS3 x).mono ?_)
  rintro e x' ⟨rfl, q'⟩
  exact ⟨_, rfl, q', rfl, fun h => absurd h (by decide)⟩
theorem y7_26 {a0 : Act} {w : World} {A B pf V6 V7 V8 S1 S2 S3 S4 W1 W2 W3 W4 : Nat} {X Y Z N1 N2 N3 N4 : RNum} (E : Env7 a0 w A B pf V6 V7 V8 S1 S2 S3 S4 W1 W2 W3 W4 X Y Z N1 N2 N3 N4) {R : Exit → Act → World → Prop} {a : Act} {x : World} (q : Q w x) (oth : ∀ j, j ∉ s7 → a.tmps[j]? = a0.tmps[j]?) (dep : ∀ e ∈ o7_26.after, Region.binds .any e = true → ∀ t', s7[e.on]? = some t' → ∃ v, a.tmps[t']? = some v ∧ factOf (sp7 A B S1 S2 S3 S4 W1 W2 W3 W4 X Y Z N1 N2 N3 N4) e.on v x) : Yld Try.prog R o7_26 a x 51 (fun v x' => factOf (sp7 A B S1 S2 S3 S4 W1 W2 W3 W4 X Y Z N1 N2 N3 N4) 26 v x' ∧ (26 ∈ ([] : List Nat) → v = ptrV x.heap.size)) := by
  exact yld_run (x' := x) rfl (run_form (tmp_eval ((oth 5 (by decide)).trans E.h5)) (E.fb.next q)) (Q.refl x) ⟨rfl, fun h => absurd h (by decide)⟩
theorem y7_27 {a0 : Act} {w : World} {A B pf V6 V7 V8 S1 S2 S3 S4 W1 W2 W3 W4 : Nat} {X Y Z N1 N2 N3 N4 : RNum} (E : Env7 a0 w A B pf V6 V7 V8 S1 S2 S3 S4 W1 W2 W3 W4 X Y Z N1 N2 N3 N4) {R : Exit → Act → World → Prop} {a : Act} {x : World} (q : Q w x) (oth : ∀ j, j ∉ s7 → a.tmps[j]? = a0.tmps[j]?) (dep : ∀ e ∈ o7_27.after, Region.binds .any e = true → ∀ t', s7[e.on]? = some t' → ∃ v, a.tmps[t']? = some v ∧ factOf (sp7 A B S1 S2 S3 S4 W1 W2 W3 W4 X Y Z N1 N2 N3 N4) e.on v x) : Yld Try.prog R o7_27 a x 52 (fun v x' => factOf (sp7 A B S1 S2 S3 S4 W1 W2 W3 W4 X Y Z N1 N2 N3 N4) 27 v x' ∧ (27 ∈ ([] : List Nat) → v = ptrV x.heap.size)) := by
  obtain ⟨k, s, p, L, C, e, m, b1, b2⟩ := E.bX.next q
  exact yld_run (x' := x) rfl (run_num (tmp_eval ((oth 6 (by decide)).trans E.h6)) b1) (Q.refl x) ⟨b2, fun h => absurd h (by decide)⟩
theorem y7_28 {a0 : Act} {w : World} {A B pf V6 V7 V8 S1 S2 S3 S4 W1 W2 W3 W4 : Nat} {X Y Z N1 N2 N3 N4 : RNum} (E : Env7 a0 w A B pf V6 V7 V8 S1 S2 S3 S4 W1 W2 W3 W4 X Y Z N1 N2 N3 N4) {R : Exit → Act → World → Prop} {a : Act} {x : World} (q : Q w x) (oth : ∀ j, j ∉ s7 → a.tmps[j]? = a0.tmps[j]?) (dep : ∀ e ∈ o7_28.after, Region.binds .any e = true → ∀ t', s7[e.on]? = some t' → ∃ v, a.tmps[t']? = some v ∧ factOf (sp7 A B S1 S2 S3 S4 W1 W2 W3 W4 X Y Z N1 N2 N3 N4) e.on v x) : Yld Try.prog R o7_28 a x 53 (fun v x' => factOf (sp7 A B S1 S2 S3 S4 W1 W2 W3 W4 X Y Z N1 N2 N3 N4) 28 v x' ∧ (28 ∈ ([] : List Nat) → v = ptrV x.heap.size)) := by
  obtain ⟨k, s, p, L, C, e, m, b1, b2⟩ := E.bY.next q
  exact yld_run (x' := x) rfl (run_num (tmp_eval ((oth 7 (by decide)).trans E.h7)) b1) (Q.refl x) ⟨b2, fun h => absurd h (by decide)⟩
theorem y7_29 {a0 : Act} {w : World} {A B pf V6 V7 V8 S1 S2 S3 S4 W1 W2 W3 W4 : Nat} {X Y Z N1 N2 N3 N4 : RNum} (E : Env7 a0 w A B pf V6 V7 V8 S1 S2 S3 S4 W1 W2 W3 W4 X Y Z N1 N2 N3 N4) {R : Exit → Act → World → Prop} {a : Act} {x : World} (q : Q w x) (oth : ∀ j, j ∉ s7 → a.tmps[j]? = a0.tmps[j]?) (dep : ∀ e ∈ o7_29.after, Region.binds .any e = true → ∀ t', s7[e.on]? = some t' → ∃ v, a.tmps[t']? = some v ∧ factOf (sp7 A B S1 S2 S3 S4 W1 W2 W3 W4 X Y Z N1 N2 N3 N4) e.on v x) : Yld Try.prog R o7_29 a x 54 (fun v x' => factOf (sp7 A B S1 S2 S3 S4 W1 W2 W3 W4 X Y Z N1 N2 N3 N4) 29 v x' ∧ (29 ∈ ([] : List Nat) → v = ptrV x.heap.size)) := by
  obtain ⟨v1, t1, f1⟩ := dep ⟨27, .data⟩ (by simp [o7_29]) rfl 52 rfl
  have f1 : NumAt x v1 X := f1
  obtain ⟨v2, t2, f2⟩ := dep ⟨28, .data⟩ (by simp [o7_29]) rfl 53 rfl
  have f2 : NumAt x v2 Y := f2
  refine yld_call (enters_of Try.func14 (by kernel_rfl) rfl) (args2 t1 t2) ((E.cN3 _ _ x f1 f2).mono ?_)
  rintro e x' ⟨v, rfl, h, q'⟩
  exact ⟨v, rfl, q', h, fun h => absurd h (by decide)⟩
theorem y7_30 {a0 : Act} {w : World} {A B pf V6 V7 V8 S1 S2 S3 S4 W1 W2 W3 W4 : Nat} {X Y Z N1 N2 N3 N4 : RNum} (E : Env7 a0 w A B pf V6 V7 V8 S1 S2 S3 S4 W1 W2 W3 W4 X Y Z N1 N2 N3 N4) {R : Exit → Act → World → Prop} {a : Act} {x : World} (q : Q w x) (oth : ∀ j, j ∉ s7 → a.tmps[j]? = a0.tmps[j]?) (dep : ∀ e ∈ o7_30.after, Region.binds .any e = true → ∀ t', s7[e.on]? = some t' → ∃ v, a.tmps[t']? = some v ∧ factOf (sp7 A B S1 S2 S3 S4 W1 W2 W3 W4 X Y Z N1 N2 N3 N4) e.on v x) : Yld Try.prog R o7_30 a x 55 (fun v x' => factOf (sp7 A B S1 S2 S3 S4 W1 W2 W3 W4 X Y Z N1 N2 N3 N4) 30 v x' ∧ (30 ∈ ([] : List Nat) → v = ptrV x.heap.size)) := by
  obtain ⟨v1, t1, f1⟩ := dep ⟨26, .data⟩ (by simp [o7_30]) rfl 51 rfl
  have f1 : v1 = formV := f1
  subst f1
  obtain ⟨v2, t2, f2⟩ := dep ⟨29, .data⟩ (by simp [o7_30]) rfl 54 rfl
  have f2 : NumAt x v2 N3 := f2
  refine yld_call (enters_of Try.func10 (by kernel_rfl) rfl) (args2 t1 t2) ((E.cW3 _ x f2).mono ?_)
  rintro e x' ⟨rfl, q'⟩
  exact ⟨_, rfl, q', rfl, fun h => absurd h (by decide)⟩
theorem y7_31 {a0 : Act} {w : World} {A B pf V6 V7 V8 S1 S2 S3 S4 W1 W2 W3 W4 : Nat} {X Y Z N1 N2 N3 N4 : RNum} (E : Env7 a0 w A B pf V6 V7 V8 S1 S2 S3 S4 W1 W2 W3 W4 X Y Z N1 N2 N3 N4) {R : Exit → Act → World → Prop} {a : Act} {x : World} (q : Q w x) (oth : ∀ j, j ∉ s7 → a.tmps[j]? = a0.tmps[j]?) (dep : ∀ e ∈ o7_31.after, Region.binds .any e = true → ∀ t', s7[e.on]? = some t' → ∃ v, a.tmps[t']? = some v ∧ factOf (sp7 A B S1 S2 S3 S4 W1 W2 W3 W4 X Y Z N1 N2 N3 N4) e.on v x) : Yld Try.prog R o7_31 a x 56 (fun v x' => factOf (sp7 A B S1 S2 S3 S4 W1 W2 W3 W4 X Y Z N1 N2 N3 N4) 31 v x' ∧ (31 ∈ ([] : List Nat) → v = ptrV x.heap.size)) := by
  obtain ⟨v1, t1, f1⟩ := dep ⟨30, .data⟩ (by simp [o7_31]) rfl 55 rfl
  have f1 : v1 = (.int .u64 (W3 : Nat)) := f1
  subst f1
  refine yld_call (enters_of Try.func9 (by kernel_rfl) rfl) (args1 t1) ((E.cR3 x).mono ?_)
  rintro e x' ⟨rfl, q'⟩
  exact ⟨_, rfl, q', rfl, fun h => absurd h (by decide)⟩
theorem y7_32 {a0 : Act} {w : World} {A B pf V6 V7 V8 S1 S2 S3 S4 W1 W2 W3 W4 : Nat} {X Y Z N1 N2 N3 N4 : RNum} (E : Env7 a0 w A B pf V6 V7 V8 S1 S2 S3 S4 W1 W2 W3 W4 X Y Z N1 N2 N3 N4) {R : Exit → Act → World → Prop} {a : Act} {x : World} (q : Q w x) (oth : ∀ j, j ∉ s7 → a.tmps[j]? = a0.tmps[j]?) (dep : ∀ e ∈ o7_32.after, Region.binds .any e = true → ∀ t', s7[e.on]? = some t' → ∃ v, a.tmps[t']? = some v ∧ factOf (sp7 A B S1 S2 S3 S4 W1 W2 W3 W4 X Y Z N1 N2 N3 N4) e.on v x) : Yld Try.prog R o7_32 a x 57 (fun v x' => factOf (sp7 A B S1 S2 S3 S4 W1 W2 W3 W4 X Y Z N1 N2 N3 N4) 32 v x' ∧ (32 ∈ ([] : List Nat) → v = ptrV x.heap.size)) := by
  obtain ⟨v1, t1, f1⟩ := dep ⟨25, .data⟩ (by simp [o7_32]) rfl 50 rfl
  have f1 : v1 = (.int .u32 (S3 : Nat)) := f1
  subst f1
  obtain ⟨v2, t2, f2⟩ := dep ⟨31, .data⟩ (by simp [o7_32]) rfl 56 rfl
  have f2 : v2 = (.int .u32 (S3 : Nat)) := f2
  subst f2
  exact yld_run (x' := x) rfl (run_eql (tmp_eval t1) (tmp_eval t2)) (Q.refl x) ⟨rfl, fun h => absurd h (by decide)⟩
theorem y7_33 {a0 : Act} {w : World} {A B pf V6 V7 V8 S1 S2 S3 S4 W1 W2 W3 W4 : Nat} {X Y Z N1 N2 N3 N4 : RNum} (E : Env7 a0 w A B pf V6 V7 V8 S1 S2 S3 S4 W1 W2 W3 W4 X Y Z N1 N2 N3 N4) {R : Exit → Act → World → Prop} {a : Act} {x : World} (q : Q w x) (oth : ∀ j, j ∉ s7 → a.tmps[j]? = a0.tmps[j]?) (dep : ∀ e ∈ o7_33.after, Region.binds .any e = true → ∀ t', s7[e.on]? = some t' → ∃ v, a.tmps[t']? = some v ∧ factOf (sp7 A B S1 S2 S3 S4 W1 W2 W3 W4 X Y Z N1 N2 N3 N4) e.on v x) : Yld Try.prog R o7_33 a x 58 (fun v x' => factOf (sp7 A B S1 S2 S3 S4 W1 W2 W3 W4 X Y Z N1 N2 N3 N4) 33 v x' ∧ (33 ∈ ([] : List Nat) → v = ptrV x.heap.size)) := by
  obtain ⟨v1, t1, f1⟩ := dep ⟨22, .data⟩ (by simp [o7_33]) rfl 47 rfl
  have f1 : v1 = (.bool true) := f1
  subst f1
  obtain ⟨v2, t2, f2⟩ := dep ⟨32, .data⟩ (by simp [o7_33]) rfl 57 rfl
  have f2 : v2 = (.bool true) := f2
  subst f2
  exact yld_pick t1 t2 ⟨rfl, fun h => absurd h (by decide)⟩
theorem y7_34 {a0 : Act} {w : World} {A B pf V6 V7 V8 S1 S2 S3 S4 W1 W2 W3 W4 : Nat} {X Y Z N1 N2 N3 N4 : RNum} (E : Env7 a0 w A B pf V6 V7 V8 S1 S2 S3 S4 W1 W2 W3 W4 X Y Z N1 N2 N3 N4) {R : Exit → Act → World → Prop} {a : Act} {x : World} (q : Q w x) (oth : ∀ j, j ∉ s7 → a.tmps[j]? = a0.tmps[j]?) (dep : ∀ e ∈ o7_34.after, Region.binds .any e = true → ∀ t', s7[e.on]? = some t' → ∃ v, a.tmps[t']? = some v ∧ factOf (sp7 A B S1 S2 S3 S4 W1 W2 W3 W4 X Y Z N1 N2 N3 N4) e.on v x) : Yld Try.prog R o7_34 a x 59 (fun v x' => factOf (sp7 A B S1 S2 S3 S4 W1 W2 W3 W4 X Y Z N1 N2 N3 N4) 34 v x' ∧ (34 ∈ ([] : List Nat) → v = ptrV x.heap.size)) := by
  obtain ⟨v1, t1, f1⟩ := dep ⟨33, .data⟩ (by simp [o7_34]) rfl 58 rfl
  have f1 : v1 = (.bool true) := f1
  subst f1
  exact yld_move t1 ⟨rfl, fun h => absurd h (by decide)⟩
theorem y7_35 {a0 : Act} {w : World} {A B pf V6 V7 V8 S1 S2 S3 S4 W1 W2 W3 W4 : Nat} {X Y Z N1 N2 N3 N4 : RNum} (E : Env7 a0 w A B pf V6 V7 V8 S1 S2 S3 S4 W1 W2 W3 W4 X Y Z N1 N2 N3 N4) {R : Exit → Act → World → Prop} {a : Act} {x : World} (q : Q w x) (oth : ∀ j, j ∉ s7 → a.tmps[j]? = a0.tmps[j]?) (dep : ∀ e ∈ o7_35.after, Region.binds .any e = true → ∀ t', s7[e.on]? = some t' → ∃ v, a.tmps[t']? = some v ∧ factOf (sp7 A B S1 S2 S3 S4 W1 W2 W3 W4 X Y Z N1 N2 N3 N4) e.on v x) : Yld Try.prog R o7_35 a x 60 (fun v x' => factOf (sp7 A B S1 S2 S3 S4 W1 W2 W3 W4 X Y Z N1 N2 N3 N4) 35 v x' ∧ (35 ∈ ([] : List Nat) → v = ptrV x.heap.size)) := by
  exact yld_move ((oth 0 (by decide)).trans E.h0) ⟨rfl, fun h => absurd h (by decide)⟩
theorem y7_36 {a0 : Act} {w : World} {A B pf V6 V7 V8 S1 S2 S3 S4 W1 W2 W3 W4 : Nat} {X Y Z N1 N2 N3 N4 : RNum} (E : Env7 a0 w A B pf V6 V7 V8 S1 S2 S3 S4 W1 W2 W3 W4 X Y Z N1 N2 N3 N4) {R : Exit → Act → World → Prop} {a : Act} {x : World} (q : Q w x) (oth : ∀ j, j ∉ s7 → a.tmps[j]? = a0.tmps[j]?) (dep : ∀ e ∈ o7_36.after, Region.binds .any e = true → ∀ t', s7[e.on]? = some t' → ∃ v, a.tmps[t']? = some v ∧ factOf (sp7 A B S1 S2 S3 S4 W1 W2 W3 W4 X Y Z N1 N2 N3 N4) e.on v x) : Yld Try.prog R o7_36 a x 61 (fun v x' => factOf (sp7 A B S1 S2 S3 S4 W1 W2 W3 W4 X Y Z N1 N2 N3 N4) 36 v x' ∧ (36 ∈ ([] : List Nat) → v = ptrV x.heap.size)) := by
  exact yld_move ((oth 1 (by decide)).trans E.h1) ⟨rfl, fun h => absurd h (by decide)⟩
theorem y7_37 {a0 : Act} {w : World} {A B pf V6 V7 V8 S1 S2 S3 S4 W1 W2 W3 W4 : Nat} {X Y Z N1 N2 N3 N4 : RNum} (E : Env7 a0 w A B pf V6 V7 V8 S1 S2 S3 S4 W1 W2 W3 W4 X Y Z N1 N2 N3 N4) {R : Exit → Act → World → Prop} {a : Act} {x : World} (q : Q w x) (oth : ∀ j, j ∉ s7 → a.tmps[j]? = a0.tmps[j]?) (dep : ∀ e ∈ o7_37.after, Region.binds .any e = true → ∀ t', s7[e.on]? = some t' → ∃ v, a.tmps[t']? = some v ∧ factOf (sp7 A B S1 S2 S3 S4 W1 W2 W3 W4 X Y Z N1 N2 N3 N4) e.on v x) : Yld Try.prog R o7_37 a x 62 (fun v x' => factOf (sp7 A B S1 S2 S3 S4 W1 W2 W3 W4 X Y Z N1 N2 N3 N4) 37 v x' ∧ (37 ∈ ([] : List Nat) → v = ptrV x.heap.size)) := by
  obtain ⟨v1, t1, f1⟩ := dep ⟨35, .data⟩ (by simp [o7_37]) rfl 60 rfl
  have f1 : v1 = (.int .u32 (A : Nat)) := f1
  subst f1
  obtain ⟨v2, t2, f2⟩ := dep ⟨36, .data⟩ (by simp [o7_37]) rfl 61 rfl
  have f2 : v2 = (.int .u32 (B : Nat)) := f2
  subst f2
  refine yld_call (enters_of Try.func15 (by kernel_rfl) rfl) (args2 t1 t2) ((E.cS4 x).mono ?_)
  rintro e x' ⟨rfl, q'⟩
  exact ⟨_, rfl, q', rfl, fun h => absurd h (by decide)⟩
theorem y7_38 {a0 : Act} {w : World} {A B pf V6 V7 V8 S1 S2 S3 S4 W1 W2 W3 W4 : Nat} {X Y Z N1 N2 N3 N4 : RNum} (E : Env7 a0 w A B pf V6 V7 V8 S1 S2 S3 S4 W1 W2 W3 W4 X Y Z N1 N2 N3 N4) {R : Exit → Act → World → Prop} {a : Act} {x : World} (q : Q w x) (oth : ∀ j, j ∉ s7 → a.tmps[j]? = a0.tmps[j]?) (dep : ∀ e ∈ o7_38.after, Region.binds .any e = true → ∀ t', s7[e.on]? = some t' → ∃ v, a.tmps[t']? = some v ∧ factOf (sp7 A B S1 S2 S3 S4 W1 W2 W3 W4 X Y Z N1 N2 N3 N4) e.on v x) : Yld Try.prog R o7_38 a x 63 (fun v x' => factOf (sp7 A B S1 S2 S3 S4 W1 W2 W3 W4 X Y Z N1 N2 N3 N4) 38 v x' ∧ (38 ∈ ([] : List Nat) → v = ptrV x.heap.size)) := by
  exact yld_run (x' := x) rfl (run_form (tmp_eval ((oth 5 (by decide)).trans E.h5)) (E.fb.next q)) (Q.refl x) ⟨rfl, fun h => absurd h (by decide)⟩
theorem y7_39 {a0 : Act} {w : World} {A B pf V6 V7 V8 S1 S2 S3 S4 W1 W2 W3 W4 : Nat} {X Y Z N1 N2 N3 N4 : RNum} (E : Env7 a0 w A B pf V6 V7 V8 S1 S2 S3 S4 W1 W2 W3 W4 X Y Z N1 N2 N3 N4) {R : Exit → Act → World → Prop} {a : Act} {x : World} (q : Q w x) (oth : ∀ j, j ∉ s7 → a.tmps[j]? = a0.tmps[j]?) (dep : ∀ e ∈ o7_39.after, Region.binds .any e = true → ∀ t', s7[e.on]? = some t' → ∃ v, a.tmps[t']? = some v ∧ factOf (sp7 A B S1 S2 S3 S4 W1 W2 W3 W4 X Y Z N1 N2 N3 N4) e.on v x) : Yld Try.prog R o7_39 a x 64 (fun v x' => factOf (sp7 A B S1 S2 S3 S4 W1 W2 W3 W4 X Y Z N1 N2 N3 N4) 39 v x' ∧ (39 ∈ ([] : List Nat) → v = ptrV x.heap.size)) := by
  obtain ⟨k, s, p, L, C, e, m, b1, b2⟩ := E.bX.next q
  exact yld_run (x' := x) rfl (run_num (tmp_eval ((oth 6 (by decide)).trans E.h6)) b1) (Q.refl x) ⟨b2, fun h => absurd h (by decide)⟩
theorem y7_40 {a0 : Act} {w : World} {A B pf V6 V7 V8 S1 S2 S3 S4 W1 W2 W3 W4 : Nat} {X Y Z N1 N2 N3 N4 : RNum} (E : Env7 a0 w A B pf V6 V7 V8 S1 S2 S3 S4 W1 W2 W3 W4 X Y Z N1 N2 N3 N4) {R : Exit → Act → World → Prop} {a : Act} {x : World} (q : Q w x) (oth : ∀ j, j ∉ s7 → a.tmps[j]? = a0.tmps[j]?) (dep : ∀ e ∈ o7_40.after, Region.binds .any e = true → ∀ t', s7[e.on]? = some t' → ∃ v, a.tmps[t']? = some v ∧ factOf (sp7 A B S1 S2 S3 S4 W1 W2 W3 W4 X Y Z N1 N2 N3 N4) e.on v x) : Yld Try.prog R o7_40 a x 65 (fun v x' => factOf (sp7 A B S1 S2 S3 S4 W1 W2 W3 W4 X Y Z N1 N2 N3 N4) 40 v x' ∧ (40 ∈ ([] : List Nat) → v = ptrV x.heap.size)) := by
  obtain ⟨k, s, p, L, C, e, m, b1, b2⟩ := E.bY.next q
  exact yld_run (x' := x) rfl (run_num (tmp_eval ((oth 7 (by decide)).trans E.h7)) b1) (Q.refl x) ⟨b2, fun h => absurd h (by decide)⟩
theorem y7_41 {a0 : Act} {w : World} {A B pf V6 V7 V8 S1 S2 S3 S4 W1 W2 W3 W4 : Nat} {X Y Z N1 N2 N3 N4 : RNum} (E : Env7 a0 w A B pf V6 V7 V8 S1 S2 S3 S4 W1 W2 W3 W4 X Y Z N1 N2 N3 N4) {R : Exit → Act → World → Prop} {a : Act} {x : World} (q : Q w x) (oth : ∀ j, j ∉ s7 → a.tmps[j]? = a0.tmps[j]?) (dep : ∀ e ∈ o7_41.after, Region.binds .any e = true → ∀ t', s7[e.on]? = some t' → ∃ v, a.tmps[t']? = some v ∧ factOf (sp7 A B S1 S2 S3 S4 W1 W2 W3 W4 X Y Z N1 N2 N3 N4) e.on v x) : Yld Try.prog R o7_41 a x 66 (fun v x' => factOf (sp7 A B S1 S2 S3 S4 W1 W2 W3 W4 X Y Z N1 N2 N3 N4) 41 v x' ∧ (41 ∈ ([] : List Nat) → v = ptrV x.heap.size)) := by
  obtain ⟨v1, t1, f1⟩ := dep ⟨39, .data⟩ (by simp [o7_41]) rfl 64 rfl
  have f1 : NumAt x v1 X := f1
  obtain ⟨v2, t2, f2⟩ := dep ⟨40, .data⟩ (by simp [o7_41]) rfl 65 rfl
  have f2 : NumAt x v2 Y := f2
  refine yld_call (enters_of Try.func16 (by kernel_rfl) rfl) (args2 t1 t2) ((E.cN4 _ _ x f1 f2).mono ?_)
  rintro e x' ⟨v, rfl, h, q'⟩
  exact ⟨v, rfl, q', h, fun h => absurd h (by decide)⟩
theorem y7_42 {a0 : Act} {w : World} {A B pf V6 V7 V8 S1 S2 S3 S4 W1 W2 W3 W4 : Nat} {X Y Z N1 N2 N3 N4 : RNum} (E : Env7 a0 w A B pf V6 V7 V8 S1 S2 S3 S4 W1 W2 W3 W4 X Y Z N1 N2 N3 N4) {R : Exit → Act → World → Prop} {a : Act} {x : World} (q : Q w x) (oth : ∀ j, j ∉ s7 → a.tmps[j]? = a0.tmps[j]?) (dep : ∀ e ∈ o7_42.after, Region.binds .any e = true → ∀ t', s7[e.on]? = some t' → ∃ v, a.tmps[t']? = some v ∧ factOf (sp7 A B S1 S2 S3 S4 W1 W2 W3 W4 X Y Z N1 N2 N3 N4) e.on v x) : Yld Try.prog R o7_42 a x 67 (fun v x' => factOf (sp7 A B S1 S2 S3 S4 W1 W2 W3 W4 X Y Z N1 N2 N3 N4) 42 v x' ∧ (42 ∈ ([] : List Nat) → v = ptrV x.heap.size)) := by
  obtain ⟨v1, t1, f1⟩ := dep ⟨38, .data⟩ (by simp [o7_42]) rfl 63 rfl
  have f1 : v1 = formV := f1
  subst f1
  obtain ⟨v2, t2, f2⟩ := dep ⟨41, .data⟩ (by simp [o7_42]) rfl 66 rfl
  have f2 : NumAt x v2 N4 := f2
  refine yld_call (enters_of Try.func10 (by kernel_rfl) rfl) (args2 t1 t2) ((E.cW4 _ x f2).mono ?_)
  rintro e x' ⟨rfl, q'⟩
  exact ⟨_, rfl, q', rfl, fun h => absurd h (by decide)⟩
theorem y7_43 {a0 : Act} {w : World} {A B pf V6 V7 V8 S1 S2 S3 S4 W1 W2 W3 W4 : Nat} {X Y Z N1 N2 N3 N4 : RNum} (E : Env7 a0 w A B pf V6 V7 V8 S1 S2 S3 S4 W1 W2 W3 W4 X Y Z N1 N2 N3 N4) {R : Exit → Act → World → Prop} {a : Act} {x : World} (q : Q w x) (oth : ∀ j, j ∉ s7 → a.tmps[j]? = a0.tmps[j]?) (dep : ∀ e ∈ o7_43.after, Region.binds .any e = true → ∀ t', s7[e.on]? = some t' → ∃ v, a.tmps[t']? = some v ∧ factOf (sp7 A B S1 S2 S3 S4 W1 W2 W3 W4 X Y Z N1 N2 N3 N4) e.on v x) : Yld Try.prog R o7_43 a x 68 (fun v x' => factOf (sp7 A B S1 S2 S3 S4 W1 W2 W3 W4 X Y Z N1 N2 N3 N4) 43 v x' ∧ (43 ∈ ([] : List Nat) → v = ptrV x.heap.size)) := by
  obtain ⟨v1, t1, f1⟩ := dep ⟨42, .data⟩ (by simp [o7_43]) rfl 67 rfl
  have f1 : v1 = (.int .u64 (W4 : Nat)) := f1
  subst f1
  refine yld_call (enters_of Try.func9 (by kernel_rfl) rfl) (args1 t1) ((E.cR4 x).mono ?_)
  rintro e x' ⟨rfl, q'⟩
  exact ⟨_, rfl, q', rfl, fun h => absurd h (by decide)⟩
theorem y7_44 {a0 : Act} {w : World} {A B pf V6 V7 V8 S1 S2 S3 S4 W1 W2 W3 W4 : Nat} {X Y Z N1 N2 N3 N4 : RNum} (E : Env7 a0 w A B pf V6 V7 V8 S1 S2 S3 S4 W1 W2 W3 W4 X Y Z N1 N2 N3 N4) {R : Exit → Act → World → Prop} {a : Act} {x : World} (q : Q w x) (oth : ∀ j, j ∉ s7 → a.tmps[j]? = a0.tmps[j]?) (dep : ∀ e ∈ o7_44.after, Region.binds .any e = true → ∀ t', s7[e.on]? = some t' → ∃ v, a.tmps[t']? = some v ∧ factOf (sp7 A B S1 S2 S3 S4 W1 W2 W3 W4 X Y Z N1 N2 N3 N4) e.on v x) : Yld Try.prog R o7_44 a x 69 (fun v x' => factOf (sp7 A B S1 S2 S3 S4 W1 W2 W3 W4 X Y Z N1 N2 N3 N4) 44 v x' ∧ (44 ∈ ([] : List Nat) → v = ptrV x.heap.size)) := by
  obtain ⟨v1, t1, f1⟩ := dep ⟨37, .data⟩ (by simp [o7_44]) rfl 62 rfl
  have f1 : v1 = (.int .u32 (S4 : Nat)) := f1
  subst f1
  obtain ⟨v2, t2, f2⟩ := dep ⟨43, .data⟩ (by simp [o7_44]) rfl 68 rfl
  have f2 : v2 = (.int .u32 (S4 : Nat)) := f2
  subst f2
  exact yld_run (x' := x) rfl (run_eql (tmp_eval t1) (tmp_eval t2)) (Q.refl x) ⟨rfl, fun h => absurd h (by decide)⟩
theorem y7_45 {a0 : Act} {w : World} {A B pf V6 V7 V8 S1 S2 S3 S4 W1 W2 W3 W4 : Nat} {X Y Z N1 N2 N3 N4 : RNum} (E : Env7 a0 w A B pf V6 V7 V8 S1 S2 S3 S4 W1 W2 W3 W4 X Y Z N1 N2 N3 N4) {R : Exit → Act → World → Prop} {a : Act} {x : World} (q : Q w x) (oth : ∀ j, j ∉ s7 → a.tmps[j]? = a0.tmps[j]?) (dep : ∀ e ∈ o7_45.after, Region.binds .any e = true → ∀ t', s7[e.on]? = some t' → ∃ v, a.tmps[t']? = some v ∧ factOf (sp7 A B S1 S2 S3 S4 W1 W2 W3 W4 X Y Z N1 N2 N3 N4) e.on v x) : Yld Try.prog R o7_45 a x 70 (fun v x' => factOf (sp7 A B S1 S2 S3 S4 W1 W2 W3 W4 X Y Z N1 N2 N3 N4) 45 v x' ∧ (45 ∈ ([] : List Nat) → v = ptrV x.heap.size)) := by
  obtain ⟨v1, t1, f1⟩ := dep ⟨34, .data⟩ (by simp [o7_45]) rfl 59 rfl
  have f1 : v1 = (.bool true) := f1
  subst f1
  obtain ⟨v2, t2, f2⟩ := dep ⟨44, .data⟩ (by simp [o7_45]) rfl 69 rfl
  have f2 : v2 = (.bool true) := f2
  subst f2
  exact yld_pick t1 t2 ⟨rfl, fun h => absurd h (by decide)⟩
theorem hop7 {a0 : Act} {w : World} {A B pf V6 V7 V8 S1 S2 S3 S4 W1 W2 W3 W4 : Nat} {X Y Z N1 N2 N3 N4 : RNum} (E : Env7 a0 w A B pf V6 V7 V8 S1 S2 S3 S4 W1 W2 W3 W4 X Y Z N1 N2 N3 N4) {R : Exit → Act → World → Prop} : ∀ (i t : Nat) (o : Oper) (a : Act) (x : World), i < 46 → s7[i]? = some t → ops7[i]? = some o → Q w x → (∀ j, j ∉ s7 → a.tmps[j]? = a0.tmps[j]?) → (∀ e ∈ o.after, Region.binds .any e = true → ∀ t', s7[e.on]? = some t' → ∃ v, a.tmps[t']? = some v ∧ factOf (sp7 A B S1 S2 S3 S4 W1 W2 W3 W4 X Y Z N1 N2 N3 N4) e.on v x) → Yld Try.prog R o a x t (fun v x' => factOf (sp7 A B S1 S2 S3 S4 W1 W2 W3 W4 X Y Z N1 N2 N3 N4) i v x' ∧ (i ∈ ([] : List Nat) → v = ptrV x.heap.size))
  | 0, t, o, a, x, hi, ht, ho, q, oth, dep => by
    have e1 : o7_0 = o := Option.some.inj ho
    have e2 : 25 = t := Option.some.inj ht
    subst e1 e2
    exact y7_0 E q oth dep
  | 1, t, o, a, x, hi, ht, ho, q, oth, dep => by
    have e1 : o7_1 = o := Option.some.inj ho
    have e2 : 26 = t := Option.some.inj ht
    subst e1 e2
    exact y7_1 E q oth dep
  | 2, t, o, a, x, hi, ht, ho, q, oth, dep => by
    have e1 : o7_2 = o := Option.some.inj ho
    have e2 : 27 = t := Option.some.inj ht
    subst e1 e2
    exact y7_2 E q oth dep
  | 3, t, o, a, x, hi, ht, ho, q, oth, dep => by
    have e1 : o7_3 = o := Option.some.inj ho
    have e2 : 28 = t := Option.some.inj ht
    subst e1 e2
    exact y7_3 E q oth dep
  | 4, t, o, a, x, hi, ht, ho, q, oth, dep => by
    have e1 : o7_4 = o := Option.some.inj ho
    have e2 : 29 = t := Option.some.inj ht
    subst e1 e2
    exact y7_4 E q oth dep
  | 5, t, o, a, x, hi, ht, ho, q, oth, dep => by
    have e1 : o7_5 = o := Option.some.inj ho
    have e2 : 30 = t := Option.some.inj ht
    subst e1 e2
    exact y7_5 E q oth dep
  | 6, t, o, a, x, hi, ht, ho, q, oth, dep => by
    have e1 : o7_6 = o := Option.some.inj ho
    have e2 : 31 = t := Option.some.inj ht
    subst e1 e2
    exact y7_6 E q oth dep
  | 7, t, o, a, x, hi, ht, ho, q, oth, dep => by
    have e1 : o7_7 = o := Option.some.inj ho
    have e2 : 32 = t := Option.some.inj ht
    subst e1 e2
    exact y7_7 E q oth dep
  | 8, t, o, a, x, hi, ht, ho, q, oth, dep => by
    have e1 : o7_8 = o := Option.some.inj ho
    have e2 : 33 = t := Option.some.inj ht
    subst e1 e2
    exact y7_8 E q oth dep
  | 9, t, o, a, x, hi, ht, ho, q, oth, dep => by
    have e1 : o7_9 = o := Option.some.inj ho
    have e2 : 34 = t := Option.some.inj ht
    subst e1 e2
    exact y7_9 E q oth dep
  | 10, t, o, a, x, hi, ht, ho, q, oth, dep => by
    have e1 : o7_10 = o := Option.some.inj ho
    have e2 : 35 = t := Option.some.inj ht
    subst e1 e2
    exact y7_10 E q oth dep
  | 11, t, o, a, x, hi, ht, ho, q, oth, dep => by
    have e1 : o7_11 = o := Option.some.inj ho
    have e2 : 36 = t := Option.some.inj ht
    subst e1 e2
    exact y7_11 E q oth dep
  | 12, t, o, a, x, hi, ht, ho, q, oth, dep => by
    have e1 : o7_12 = o := Option.some.inj ho
    have e2 : 37 = t := Option.some.inj ht
    subst e1 e2
    exact y7_12 E q oth dep
  | 13, t, o, a, x, hi, ht, ho, q, oth, dep => by
    have e1 : o7_13 = o := Option.some.inj ho
    have e2 : 38 = t := Option.some.inj ht
    subst e1 e2
    exact y7_13 E q oth dep
  | 14, t, o, a, x, hi, ht, ho, q, oth, dep => by
    have e1 : o7_14 = o := Option.some.inj ho
    have e2 : 39 = t := Option.some.inj ht
    subst e1 e2
    exact y7_14 E q oth dep
  | 15, t, o, a, x, hi, ht, ho, q, oth, dep => by
    have e1 : o7_15 = o := Option.some.inj ho
    have e2 : 40 = t := Option.some.inj ht
    subst e1 e2
    exact y7_15 E q oth dep
  | 16, t, o, a, x, hi, ht, ho, q, oth, dep => by
    have e1 : o7_16 = o := Option.some.inj ho
    have e2 : 41 = t := Option.some.inj ht
    subst e1 e2
    exact y7_16 E q oth dep
  | 17, t, o, a, x, hi, ht, ho, q, oth, dep => by
    have e1 : o7_17 = o := Option.some.inj ho
    have e2 : 42 = t := Option.some.inj ht
    subst e1 e2
    exact y7_17 E q oth dep
  | 18, t, o, a, x, hi, ht, ho, q, oth, dep => by
    have e1 : o7_18 = o := Option.some.inj ho
    have e2 : 43 = t := Option.some.inj ht
    subst e1 e2
    exact y7_18 E q oth dep
  | 19, t, o, a, x, hi, ht, ho, q, oth, dep => by
    have e1 : o7_19 = o := Option.some.inj ho
    have e2 : 44 = t := Option.some.inj ht
    subst e1 e2
    exact y7_19 E q oth dep
  | 20, t, o, a, x, hi, ht, ho, q, oth, dep => by
    have e1 : o7_20 = o := Option.some.inj ho
    have e2 : 45 = t := Option.some.inj ht
    subst e1 e2
    exact y7_20 E q oth dep
  | 21, t, o, a, x, hi, ht, ho, q, oth, dep => by
    have e1 : o7_21 = o := Option.some.inj ho
    have e2 : 46 = t := Option.some.inj ht
    subst e1 e2
    exact y7_21 E q oth dep
  | 22, t, o, a, x, hi, ht, ho, q, oth, dep => by
    have e1 : o7_22 = o := Option.some.inj ho
    have e2 : 47 = t := Option.some.inj ht
    subst e1 e2
    exact y7_22 E q oth dep
  | 23, t, o, a, x, hi, ht, ho, q, oth, dep => by
    have e1 : o7_23 = o := Option.some.inj ho
    have e2 : 48 = t := Option.some.inj ht
    subst e1 e2
    exact y7_23 E q oth dep
  | 24, t, o, a, x, hi, ht, ho, q, oth, dep => by
    have e1 : o7_24 = o := Option.some.inj ho
    have e2 : 49 = t := Option.some.inj ht
    subst e1 e2
    exact y7_24 E q oth dep
  | 25, t, o, a, x, hi, ht, ho, q, oth, dep => by
    have e1 : o7_25 = o := Option.some.inj ho
    have e2 : 50 = t := Option.some.inj ht
    subst e1 e2
    exact y7_25 E q oth dep
  | 26, t, o, a, x, hi, ht, ho, q, oth, dep => by
    have e1 : o7_26 = o := Option.some.inj ho
    have e2 : 51 = t := Option.some.inj ht
    subst e1 e2
    exact y7_26 E q oth dep
  | 27, t, o, a, x, hi, ht, ho, q, oth, dep => by
    have e1 : o7_27 = o := Option.some.inj ho
    have e2 : 52 = t := Option.some.inj ht
    subst e1 e2
    exact y7_27 E q oth dep
  | 28, t, o, a, x, hi, ht, ho, q, oth, dep => by
    have e1 : o7_28 = o := Option.some.inj ho
    have e2 : 53 = t := Option.some.inj ht
    subst e1 e2
    exact y7_28 E q oth dep
  | 29, t, o, a, x, hi, ht, ho, q, oth, dep => by
    have e1 : o7_29 = o := Option.some.inj ho
    have e2 : 54 = t := Option.some.inj ht
    subst e1 e2
    exact y7_29 E q oth dep
  | 30, t, o, a, x, hi, ht, ho, q, oth, dep => by
    have e1 : o7_30 = o := Option.some.inj ho
    have e2 : 55 = t := Option.some.inj ht
    subst e1 e2
    exact y7_30 E q oth dep
  | 31, t, o, a, x, hi, ht, ho, q, oth, dep => by
    have e1 : o7_31 = o := Option.some.inj ho
    have e2 : 56 = t := Option.some.inj ht
    subst e1 e2
    exact y7_31 E q oth dep
  | 32, t, o, a, x, hi, ht, ho, q, oth, dep => by
    have e1 : o7_32 = o := Option.some.inj ho
    have e2 : 57 = t := Option.some.inj ht
    subst e1 e2
    exact y7_32 E q oth dep
  | 33, t, o, a, x, hi, ht, ho, q, oth, dep => by
    have e1 : o7_33 = o := Option.some.inj ho
    have e2 : 58 = t := Option.some.inj ht
    subst e1 e2
    exact y7_33 E q oth dep
  | 34, t, o, a, x, hi, ht, ho, q, oth, dep => by
    have e1 : o7_34 = o := Option.some.inj ho
    have e2 : 59 = t := Option.some.inj ht
    subst e1 e2
    exact y7_34 E q oth dep
  | 35, t, o, a, x, hi, ht, ho, q, oth, dep => by
    have e1 : o7_35 = o := Option.some.inj ho
    have e2 : 60 = t := Option.some.inj ht
    subst e1 e2
    exact y7_35 E q oth dep
  | 36, t, o, a, x, hi, ht, ho, q, oth, dep => by
    have e1 : o7_36 = o := Option.some.inj ho
    have e2 : 61 = t := Option.some.inj ht
    subst e1 e2
    exact y7_36 E q oth dep
  | 37, t, o, a, x, hi, ht, ho, q, oth, dep => by
    have e1 : o7_37 = o := Option.some.inj ho
    have e2 : 62 = t := Option.some.inj ht
    subst e1 e2
    exact y7_37 E q oth dep
  | 38, t, o, a, x, hi, ht, ho, q, oth, dep => by
    have e1 : o7_38 = o := Option.some.inj ho
    have e2 : 63 = t := Option.some.inj ht
    subst e1 e2
    exact y7_38 E q oth dep
  | 39, t, o, a, x, hi, ht, ho, q, oth, dep => by
    have e1 : o7_39 = o := Option.some.inj ho
    have e2 : 64 = t := Option.some.inj ht
    subst e1 e2
    exact y7_39 E q oth dep
  | 40, t, o, a, x, hi, ht, ho, q, oth, dep => by
    have e1 : o7_40 = o := Option.some.inj ho
    have e2 : 65 = t := Option.some.inj ht
    subst e1 e2
    exact y7_40 E q oth dep
  | 41, t, o, a, x, hi, ht, ho, q, oth, dep => by
    have e1 : o7_41 = o := Option.some.inj ho
    have e2 : 66 = t := Option.some.inj ht
    subst e1 e2
    exact y7_41 E q oth dep
  | 42, t, o, a, x, hi, ht, ho, q, oth, dep => by
    have e1 : o7_42 = o := Option.some.inj ho
    have e2 : 67 = t := Option.some.inj ht
    subst e1 e2
    exact y7_42 E q oth dep
  | 43, t, o, a, x, hi, ht, ho, q, oth, dep => by
    have e1 : o7_43 = o := Option.some.inj ho
    have e2 : 68 = t := Option.some.inj ht
    subst e1 e2
    exact y7_43 E q oth dep
  | 44, t, o, a, x, hi, ht, ho, q, oth, dep => by
    have e1 : o7_44 = o := Option.some.inj ho
    have e2 : 69 = t := Option.some.inj ht
    subst e1 e2
    exact y7_44 E q oth dep
  | 45, t, o, a, x, hi, ht, ho, q, oth, dep => by
    have e1 : o7_45 = o := Option.some.inj ho
    have e2 : 70 = t := Option.some.inj ht
    subst e1 e2
    exact y7_45 E q oth dep
  | i + 46, t, o, a, x, hi, ht, ho, q, oth, dep => absurd hi (by omega)
theorem region7 {id : Nat} {l : List Oper} {R : Exit → Act → World → Prop} {a0 : Act} {w : World} {A B pf V6 V7 V8 S1 S2 S3 S4 W1 W2 W3 W4 : Nat} {X Y Z N1 N2 N3 N4 : RNum} (hl : l = ops7) (hsz : a0.tmps.size = 71) (E : Env7 a0 w A B pf V6 V7 V8 S1 S2 S3 S4 W1 W2 W3 W4 X Y Z N1 N2 N3 N4)
    (hR : ∀ a x, Q w x → a.tmps.size = 71 → a.defers = a0.defers → a.tmps[4]? = some (.bool true) → R .normal a x) :
    (Code.region id l.toArray true).wp Try.prog R a0 w := by
  subst hl
  refine wp_region_factsG 46 s7 (factOf (sp7 A B S1 S2 S3 S4 W1 W2 W3 W4 X Y Z N1 N2 N3 N4)) [] (by kernel_rfl) (by decide +kernel) (by decide) rfl (by decide) (fun t ht => ?_) factOf.next ?_ ?_ (fun i v x hi hf => by cases hi) (hop7 E) (fun a x q size defers other facts apart => ?_)
  · rw [hsz]
    revert t
    decide
  · decide +kernel
  · intro i o g b ho hg v x hf
    have hi : i < 47 := (List.getElem?_eq_some_iff.1 ho).1
    have key : ∀ i, i < 47 → (ops7[i]?).bind (·.guard) = none ∨ (ops7[i]?).bind (·.guard) = some (10, true) ∨ (ops7[i]?).bind (·.guard) = some (22, true) ∨ (ops7[i]?).bind (·.guard) = some (34, true) := by decide +kernel
    have h := key i hi
    rw [ho] at h
    simp only [Option.bind_some] at h
    rw [hg] at h
    rcases h with h | h | h | h
    · cases h
    all_goals
      injection h with h
      injection h with h1 h2
      subst h1 h2
      exact hf
  · obtain ⟨v, t70, f70⟩ := facts 45 70 (by decide) rfl
    have f70 : v = .bool true := f70
    subst f70
    refine ⟨?_⟩
    show R .normal (a.put (some 4) (a.eval (.tmp 70))) x
    rw [tmp_eval t70]
    refine hR _ _ q (Eq.trans Array.size_setIfInBounds (size.trans hsz)) defers (Array.getElem?_setIfInBounds_self_of_lt ?_)
    rw [size, hsz]
    decide
end Go.Proofs.Ytpoilgiplhogjaa
