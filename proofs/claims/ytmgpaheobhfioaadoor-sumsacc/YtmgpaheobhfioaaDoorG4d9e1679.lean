/- The document's Over of an exact sum: it told, divided by a number. (gen_tyw.py) -/
import Derived.Test.YtmgpaheobhfioaaDoorG0896ea7b
import Derived.Test.YtmgpaheobhfioaaDoorG95cfc35d
import Derived.Test.YtmgpaheobhfioaaDoorG6dc8acda
import Derived.Test.YtmgpaheobhfioaaDoorGc6c2317b
import Derived.Test.YtmgpaheobhfioaaDoorG24259f96
import Derived.Test.YtmgpaheobhfioaaDoorG8dbd2455
import Derived.Test.YtmgpaheobhfioaaDoorG53243a32
import Derived.Test.YtmgpaheobhfioaaDoorG69c79473
namespace Go.Proofs.YtmgpaheobhfioaaDoor
open Go.RowKit
set_option linter.unusedVariables false
set_option linter.unusedSimpArgs false
set_option maxRecDepth 100000

section
variable {P : Program} {ρ : Operand → Value} {x : World} {d : Option Tmp} {ty : TypeId} {ps : String} {af : Array Edge} {g : Option (Nat × Bool)}
theorem run_nckW {j : Nat} {p : Addr} (h : ρ (.tmp j) = .pointer (some p)) : (execOp ρ { dst := d, op := .nilCheck (.tmp j), type := ty, pos := ps, after := af, guard := g }).run P x = .ok (.value (.pointer (some p))) x := by
  simp [execOp, h, go_sem]
theorem run_faW {j b : Nat} (h : ρ (.tmp j) = .pointer (some ⟨b, 0, none⟩)) : (execOp ρ { dst := d, op := .fieldAddr 98 (.tmp j) 0, type := ty, pos := ps, after := af, guard := g }).run Tryd.prog x = .ok (.value (.pointer (some ⟨b, 0, none⟩))) x := by
  simp [execOp, h, go_sem]
theorem run_cvW {j : Nat} {n m : Int} (h : ρ (.tmp j) = .int .u64 n) (hw : IntKind.u32.wrap n = m) : (execOp ρ { dst := d, op := .convert 48 36 (.tmp j), type := ty, pos := ps, after := af, guard := g }).run Tryd.prog x = .ok (.value (.int .u32 m)) x := by
  simp [execOp, h, go_sem, hw]
end
def spR (X : RNum) : Spec := ⟨fun v x => NumAt x v X, fun h q => q.num h⟩
def oOV_0 : Oper := { dst := some 42, op := .call { callee := .value (.func 16), args := #[], argTypes := #[] }, type := 45, pos := "halideref3.go:155", after := #[], guard := none }
def oOV_1 : Oper := { dst := some 43, op := .move (.tmp 0), type := 72, pos := "halideref3.go:155", after := #[], guard := none }
def oOV_2 : Oper := { dst := some 44, op := .nilCheck (.tmp 43), type := 0, pos := "halideref3.go:155", after := #[⟨1, .data⟩], guard := none }
def oOV_3 : Oper := { dst := some 45, op := .fieldAddr 98 (.tmp 44) 0, type := 0, pos := "halideref3.go:155", after := #[⟨2, .data⟩], guard := none }
def oOV_4 : Oper := { dst := some 46, op := .load 43 (.tmp 45), type := 43, pos := "halideref3.go:155", after := #[⟨3, .data⟩], guard := none }
def oOV_5 : Oper := { dst := some 47, op := .load 43 (.tmp 8), type := 43, pos := "halideref3.go:155", after := #[], guard := none }
def oOV_6 : Oper := { dst := some 48, op := .call { callee := .value (.func 63), args := #[.tmp 46, .tmp 47], argTypes := #[43, 43] }, type := 43, pos := "halideref3.go:155", after := #[⟨4, .data⟩, ⟨5, .data⟩, ⟨0, .chain⟩], guard := none }
def oOV_7 : Oper := { dst := some 49, op := .call { callee := .value (.func 62), args := #[.tmp 42, .tmp 48], argTypes := #[45, 43] }, type := 48, pos := "halideref3.go:155", after := #[⟨0, .data⟩, ⟨6, .data⟩, ⟨6, .chain⟩], guard := none }
def oOV_8 : Oper := { dst := some 50, op := .convert 48 36 (.tmp 49), type := 36, pos := "halideref3.go:155", after := #[⟨7, .data⟩], guard := none }
def oOV_9 : Oper := { dst := some 4, op := .assign (.tmp 50), type := 36, pos := "halideref3.go:155", after := #[⟨8, .data⟩, ⟨7, .chain⟩, ⟨0, .phase⟩, ⟨1, .phase⟩, ⟨2, .phase⟩, ⟨3, .phase⟩, ⟨4, .phase⟩, ⟨5, .phase⟩, ⟨6, .phase⟩, ⟨7, .phase⟩, ⟨8, .phase⟩], guard := none }
def oOV_10 : Oper := { dst := some 5, op := .assign (.const (.int .i64 0)), type := 3, pos := "halideref3.go:155", after := #[⟨9, .chain⟩, ⟨0, .phase⟩, ⟨1, .phase⟩, ⟨2, .phase⟩, ⟨3, .phase⟩, ⟨4, .phase⟩, ⟨5, .phase⟩, ⟨6, .phase⟩, ⟨7, .phase⟩, ⟨8, .phase⟩, ⟨9, .phase⟩], guard := none }
def opsOV : List Oper := [oOV_0, oOV_1, oOV_2, oOV_3, oOV_4, oOV_5, oOV_6, oOV_7, oOV_8, oOV_9, oOV_10]
def sOV : List Nat := [42, 43, 44, 45, 46, 47, 48, 49, 50, 4, 5]
def spOV (B V8 : Nat) (X Y : RNum) (Rr : Nat) : List Spec := [spV (.agg #[.int .i64 23, .int .i64 8]), spV (.pointer (some ⟨B, 0, none⟩)), spV (.pointer (some ⟨B, 0, none⟩)), spV (.pointer (some ⟨B, 0, none⟩)), spR X, spR Y, spR (divR X Y), spV (.int .u64 (Rr : Int)), spV (.int .u32 (Rr : Int)), spV (.int .u32 (Rr : Int)), spV (.int .i64 0)]
structure EnvOV (a0 : Act) (w : World) (B V8 : Nat) (X Y : RNum) (Rr : Nat) : Prop where
  h0 : a0.tmps[0]? = some (.pointer (some ⟨B, 0, none⟩))
  h8 : a0.tmps[8]? = some (.pointer (some ⟨V8, 0, none⟩))
  nB : NBox w B X
  n8 : NBox w V8 Y
  fx : few X
  fy : few Y
  eR : roundR (divR X Y) = Rr
  eW : IntKind.u32.wrap (Rr : Int) = (Rr : Int)
def skOV (i : Nat) : Bool := [].contains i
theorem yOV_0 {a0 : Act} {w : World} {B V8 : Nat} {X Y : RNum} {Rr : Nat} (E : EnvOV a0 w B V8 X Y Rr) {R : Exit → Act → World → Prop} {a : Act} {x : World} (q : Q w x) (oth : ∀ j, j ∉ sOV → a.tmps[j]? = a0.tmps[j]?) (dep : ∀ ed ∈ oOV_0.after, Region.binds .any ed = true → ∀ t', sOV[ed.on]? = some t' → ∃ v, a.tmps[t']? = some v ∧ specAt (spOV B V8 X Y Rr) ed.on v x) : Yld Tryd.prog R oOV_0 a x 42 (specAt (spOV B V8 X Y Rr) 0) := by
  refine yld_call (enters_of Tryd.func16 (by kernel_rfl) rfl) (vs := #[]) (by simp) ((f32_any x).mono ?_)
  rintro u x' ⟨rfl, q'⟩
  exact ⟨_, rfl, q', rfl⟩
theorem yOV_1 {a0 : Act} {w : World} {B V8 : Nat} {X Y : RNum} {Rr : Nat} (E : EnvOV a0 w B V8 X Y Rr) {R : Exit → Act → World → Prop} {a : Act} {x : World} (q : Q w x) (oth : ∀ j, j ∉ sOV → a.tmps[j]? = a0.tmps[j]?) (dep : ∀ ed ∈ oOV_1.after, Region.binds .any ed = true → ∀ t', sOV[ed.on]? = some t' → ∃ v, a.tmps[t']? = some v ∧ specAt (spOV B V8 X Y Rr) ed.on v x) : Yld Tryd.prog R oOV_1 a x 43 (specAt (spOV B V8 X Y Rr) 1) := by
  exact yld_move ((oth 0 (by decide)).trans E.h0) rfl
theorem yOV_2 {a0 : Act} {w : World} {B V8 : Nat} {X Y : RNum} {Rr : Nat} (E : EnvOV a0 w B V8 X Y Rr) {R : Exit → Act → World → Prop} {a : Act} {x : World} (q : Q w x) (oth : ∀ j, j ∉ sOV → a.tmps[j]? = a0.tmps[j]?) (dep : ∀ ed ∈ oOV_2.after, Region.binds .any ed = true → ∀ t', sOV[ed.on]? = some t' → ∃ v, a.tmps[t']? = some v ∧ specAt (spOV B V8 X Y Rr) ed.on v x) : Yld Tryd.prog R oOV_2 a x 44 (specAt (spOV B V8 X Y Rr) 2) := by
  obtain ⟨v1, t1, f1⟩ := dep ⟨1, .data⟩ (by simp [oOV_2]) rfl 43 rfl
  have f1 : v1 = (.pointer (some ⟨B, 0, none⟩)) := f1
  subst f1
  exact yld_run (x' := x) rfl (run_nckW (tmp_eval t1)) (Q.refl x) rfl
theorem yOV_3 {a0 : Act} {w : World} {B V8 : Nat} {X Y : RNum} {Rr : Nat} (E : EnvOV a0 w B V8 X Y Rr) {R : Exit → Act → World → Prop} {a : Act} {x : World} (q : Q w x) (oth : ∀ j, j ∉ sOV → a.tmps[j]? = a0.tmps[j]?) (dep : ∀ ed ∈ oOV_3.after, Region.binds .any ed = true → ∀ t', sOV[ed.on]? = some t' → ∃ v, a.tmps[t']? = some v ∧ specAt (spOV B V8 X Y Rr) ed.on v x) : Yld Tryd.prog R oOV_3 a x 45 (specAt (spOV B V8 X Y Rr) 3) := by
  obtain ⟨v2, t2, f2⟩ := dep ⟨2, .data⟩ (by simp [oOV_3]) rfl 44 rfl
  have f2 : v2 = (.pointer (some ⟨B, 0, none⟩)) := f2
  subst f2
  exact yld_run (x' := x) rfl (run_faW (tmp_eval t2)) (Q.refl x) rfl
theorem yOV_4 {a0 : Act} {w : World} {B V8 : Nat} {X Y : RNum} {Rr : Nat} (E : EnvOV a0 w B V8 X Y Rr) {R : Exit → Act → World → Prop} {a : Act} {x : World} (q : Q w x) (oth : ∀ j, j ∉ sOV → a.tmps[j]? = a0.tmps[j]?) (dep : ∀ ed ∈ oOV_4.after, Region.binds .any ed = true → ∀ t', sOV[ed.on]? = some t' → ∃ v, a.tmps[t']? = some v ∧ specAt (spOV B V8 X Y Rr) ed.on v x) : Yld Tryd.prog R oOV_4 a x 46 (specAt (spOV B V8 X Y Rr) 4) := by
  obtain ⟨v3, t3, f3⟩ := dep ⟨3, .data⟩ (by simp [oOV_4]) rfl 45 rfl
  have f3 : v3 = (.pointer (some ⟨B, 0, none⟩)) := f3
  subst f3
  obtain ⟨k, s, p, L, C, e, m, b1, b2⟩ := E.nB.next q
  exact yld_run (x' := x) rfl (run_num (tmp_eval t3) b1) (Q.refl x) b2
theorem yOV_5 {a0 : Act} {w : World} {B V8 : Nat} {X Y : RNum} {Rr : Nat} (E : EnvOV a0 w B V8 X Y Rr) {R : Exit → Act → World → Prop} {a : Act} {x : World} (q : Q w x) (oth : ∀ j, j ∉ sOV → a.tmps[j]? = a0.tmps[j]?) (dep : ∀ ed ∈ oOV_5.after, Region.binds .any ed = true → ∀ t', sOV[ed.on]? = some t' → ∃ v, a.tmps[t']? = some v ∧ specAt (spOV B V8 X Y Rr) ed.on v x) : Yld Tryd.prog R oOV_5 a x 47 (specAt (spOV B V8 X Y Rr) 5) := by
  obtain ⟨k, s, p, L, C, e, m, b1, b2⟩ := E.n8.next q
  exact yld_run (x' := x) rfl (run_num (tmp_eval ((oth 8 (by decide)).trans E.h8)) b1) (Q.refl x) b2
theorem yOV_6 {a0 : Act} {w : World} {B V8 : Nat} {X Y : RNum} {Rr : Nat} (E : EnvOV a0 w B V8 X Y Rr) {R : Exit → Act → World → Prop} {a : Act} {x : World} (q : Q w x) (oth : ∀ j, j ∉ sOV → a.tmps[j]? = a0.tmps[j]?) (dep : ∀ ed ∈ oOV_6.after, Region.binds .any ed = true → ∀ t', sOV[ed.on]? = some t' → ∃ v, a.tmps[t']? = some v ∧ specAt (spOV B V8 X Y Rr) ed.on v x) : Yld Tryd.prog R oOV_6 a x 48 (specAt (spOV B V8 X Y Rr) 6) := by
  obtain ⟨v4, t4, f4⟩ := dep ⟨4, .data⟩ (by simp [oOV_6]) rfl 46 rfl
  have f4 : (spR X).p v4 x := f4
  obtain ⟨v5, t5, f5⟩ := dep ⟨5, .data⟩ (by simp [oOV_6]) rfl 47 rfl
  have f5 : (spR Y).p v5 x := f5
  refine yld_call (enters_of Tryd.func63 (by kernel_rfl) rfl) (args2 t4 t5) ((divnum_any _ _ _ _ x f4 f5 E.fx E.fy).mono ?_)
  rintro u x' ⟨v, rfl, h, q'⟩
  exact ⟨v, rfl, q', h⟩
theorem yOV_7 {a0 : Act} {w : World} {B V8 : Nat} {X Y : RNum} {Rr : Nat} (E : EnvOV a0 w B V8 X Y Rr) {R : Exit → Act → World → Prop} {a : Act} {x : World} (q : Q w x) (oth : ∀ j, j ∉ sOV → a.tmps[j]? = a0.tmps[j]?) (dep : ∀ ed ∈ oOV_7.after, Region.binds .any ed = true → ∀ t', sOV[ed.on]? = some t' → ∃ v, a.tmps[t']? = some v ∧ specAt (spOV B V8 X Y Rr) ed.on v x) : Yld Tryd.prog R oOV_7 a x 49 (specAt (spOV B V8 X Y Rr) 7) := by
  obtain ⟨v0, t0, f0⟩ := dep ⟨0, .data⟩ (by simp [oOV_7]) rfl 42 rfl
  have f0 : v0 = (.agg #[.int .i64 23, .int .i64 8]) := f0
  subst f0
  obtain ⟨v6, t6, f6⟩ := dep ⟨6, .data⟩ (by simp [oOV_7]) rfl 48 rfl
  have f6 : (spR (divR X Y)).p v6 x := f6
  refine yld_call (enters_of Tryd.func62 (by kernel_rfl) rfl) (args2 t0 t6) ((round32_any _ _ x f6 (divR_fits E.fx E.fy)).mono ?_)
  rintro u x' ⟨rfl, q'⟩
  exact ⟨_, rfl, q', by rw [E.eR]; rfl⟩
theorem yOV_8 {a0 : Act} {w : World} {B V8 : Nat} {X Y : RNum} {Rr : Nat} (E : EnvOV a0 w B V8 X Y Rr) {R : Exit → Act → World → Prop} {a : Act} {x : World} (q : Q w x) (oth : ∀ j, j ∉ sOV → a.tmps[j]? = a0.tmps[j]?) (dep : ∀ ed ∈ oOV_8.after, Region.binds .any ed = true → ∀ t', sOV[ed.on]? = some t' → ∃ v, a.tmps[t']? = some v ∧ specAt (spOV B V8 X Y Rr) ed.on v x) : Yld Tryd.prog R oOV_8 a x 50 (specAt (spOV B V8 X Y Rr) 8) := by
  obtain ⟨v7, t7, f7⟩ := dep ⟨7, .data⟩ (by simp [oOV_8]) rfl 49 rfl
  have f7 : v7 = (.int .u64 (Rr : Int)) := f7
  subst f7
  exact yld_run (x' := x) rfl (run_cvW (tmp_eval t7) E.eW) (Q.refl x) rfl
theorem yOV_9 {a0 : Act} {w : World} {B V8 : Nat} {X Y : RNum} {Rr : Nat} (E : EnvOV a0 w B V8 X Y Rr) {R : Exit → Act → World → Prop} {a : Act} {x : World} (q : Q w x) (oth : ∀ j, j ∉ sOV → a.tmps[j]? = a0.tmps[j]?) (dep : ∀ ed ∈ oOV_9.after, Region.binds .any ed = true → ∀ t', sOV[ed.on]? = some t' → ∃ v, a.tmps[t']? = some v ∧ specAt (spOV B V8 X Y Rr) ed.on v x) : Yld Tryd.prog R oOV_9 a x 4 (specAt (spOV B V8 X Y Rr) 9) := by
  obtain ⟨v8, t8, f8⟩ := dep ⟨8, .data⟩ (by simp [oOV_9]) rfl 50 rfl
  have f8 : v8 = (.int .u32 (Rr : Int)) := f8
  subst f8
  exact yld_run (x' := x) rfl (by rw [← tmp_eval t8]; rfl) (Q.refl x) rfl
theorem yOV_10 {a0 : Act} {w : World} {B V8 : Nat} {X Y : RNum} {Rr : Nat} (E : EnvOV a0 w B V8 X Y Rr) {R : Exit → Act → World → Prop} {a : Act} {x : World} (q : Q w x) (oth : ∀ j, j ∉ sOV → a.tmps[j]? = a0.tmps[j]?) (dep : ∀ ed ∈ oOV_10.after, Region.binds .any ed = true → ∀ t', sOV[ed.on]? = some t' → ∃ v, a.tmps[t']? = some v ∧ specAt (spOV B V8 X Y Rr) ed.on v x) : Yld Tryd.prog R oOV_10 a x 5 (specAt (spOV B V8 X Y Rr) 10) := by
  exact yld_run (x' := x) rfl rfl (Q.refl x) rfl
theorem hopOV {a0 : Act} {w : World} {B V8 : Nat} {X Y : RNum} {Rr : Nat} (E : EnvOV a0 w B V8 X Y Rr) {R : Exit → Act → World → Prop} : ∀ (i t : Nat) (o : Oper) (a : Act) (x : World), skOV i = false → sOV[i]? = some t → opsOV[i]? = some o → Q w x → (∀ j, j ∉ sOV → a.tmps[j]? = a0.tmps[j]?) → (∀ ed ∈ o.after, Region.binds .any ed = true → ∀ t', sOV[ed.on]? = some t' → ∃ v, a.tmps[t']? = some v ∧ specAt (spOV B V8 X Y Rr) ed.on v x) → Yld Tryd.prog R o a x t (specAt (spOV B V8 X Y Rr) i)
  | 0, t, o, a, x, hi, ht, ho, q, oth, dep => by
    have e1 : oOV_0 = o := Option.some.inj ho
    have e2 : 42 = t := Option.some.inj ht
    subst e1 e2
    exact yOV_0 E q oth dep
  | 1, t, o, a, x, hi, ht, ho, q, oth, dep => by
    have e1 : oOV_1 = o := Option.some.inj ho
    have e2 : 43 = t := Option.some.inj ht
    subst e1 e2
    exact yOV_1 E q oth dep
  | 2, t, o, a, x, hi, ht, ho, q, oth, dep => by
    have e1 : oOV_2 = o := Option.some.inj ho
    have e2 : 44 = t := Option.some.inj ht
    subst e1 e2
    exact yOV_2 E q oth dep
  | 3, t, o, a, x, hi, ht, ho, q, oth, dep => by
    have e1 : oOV_3 = o := Option.some.inj ho
    have e2 : 45 = t := Option.some.inj ht
    subst e1 e2
    exact yOV_3 E q oth dep
  | 4, t, o, a, x, hi, ht, ho, q, oth, dep => by
    have e1 : oOV_4 = o := Option.some.inj ho
    have e2 : 46 = t := Option.some.inj ht
    subst e1 e2
    exact yOV_4 E q oth dep
  | 5, t, o, a, x, hi, ht, ho, q, oth, dep => by
    have e1 : oOV_5 = o := Option.some.inj ho
    have e2 : 47 = t := Option.some.inj ht
    subst e1 e2
    exact yOV_5 E q oth dep
  | 6, t, o, a, x, hi, ht, ho, q, oth, dep => by
    have e1 : oOV_6 = o := Option.some.inj ho
    have e2 : 48 = t := Option.some.inj ht
    subst e1 e2
    exact yOV_6 E q oth dep
  | 7, t, o, a, x, hi, ht, ho, q, oth, dep => by
    have e1 : oOV_7 = o := Option.some.inj ho
    have e2 : 49 = t := Option.some.inj ht
    subst e1 e2
    exact yOV_7 E q oth dep
  | 8, t, o, a, x, hi, ht, ho, q, oth, dep => by
    have e1 : oOV_8 = o := Option.some.inj ho
    have e2 : 50 = t := Option.some.inj ht
    subst e1 e2
    exact yOV_8 E q oth dep
  | 9, t, o, a, x, hi, ht, ho, q, oth, dep => by
    have e1 : oOV_9 = o := Option.some.inj ho
    have e2 : 4 = t := Option.some.inj ht
    subst e1 e2
    exact yOV_9 E q oth dep
  | 10, t, o, a, x, hi, ht, ho, q, oth, dep => by
    have e1 : oOV_10 = o := Option.some.inj ho
    have e2 : 5 = t := Option.some.inj ht
    subst e1 e2
    exact yOV_10 E q oth dep
  | i + 11, t, o, a, x, hi, ht, ho, q, oth, dep => by cases ho
theorem keyOV : ∀ i, i < 11 → ((opsOV[i]?).bind (fun o : Oper => o.guard) = none ∧ skOV i = false) := by decide +kernel
theorem hguOV {B V8 : Nat} {X Y : RNum} {Rr : Nat} : ∀ (i : Nat) (o : Oper) (g : Nat) (b : Bool), opsOV[i]? = some o → o.guard = some (g, b) → ∀ v x, specAt (spOV B V8 X Y Rr) g v x → (v = .bool b ↔ skOV i = false) := by
  intro i o g b ho hg v x hf
  have h := keyOV i (List.getElem?_eq_some_iff.1 ho).1
  rw [ho] at h
  simp only [Option.bind_some] at h
  rw [hg] at h
  rcases h with ⟨h, _⟩
  · cases h
theorem hgnOV : ∀ (i : Nat) (o : Oper), opsOV[i]? = some o → o.guard = none → skOV i = false := by
  intro i o ho hg
  have h := keyOV i (List.getElem?_eq_some_iff.1 ho).1
  rw [ho] at h
  simp only [Option.bind_some] at h
  rw [hg] at h
  rcases h with ⟨_, h⟩
  · exact h
theorem hskOV {B V8 : Nat} {X Y : RNum} {Rr : Nat} : ∀ (i : Nat) (x : World), skOV i = true → specAt (spOV B V8 X Y Rr) i undef x := by
  intro i x h
  cases h
theorem regionOV {id : Nat} {l : List Oper} {R : Exit → Act → World → Prop} {a0 : Act} {w : World} {B V8 : Nat} {X Y : RNum} {Rr : Nat} (hl : l = opsOV) (hsz : a0.tmps.size = 51) (E : EnvOV a0 w B V8 X Y Rr)
    (hR : ∀ (a : Act) x, Q w x → a.defers = a0.defers → a.tmps[4]? = some (.int .u32 (Rr : Int)) → a.tmps[5]? = some (.int .i64 0) → R .normal a x) :
    (Code.region id l.toArray true).wp Tryd.prog R a0 w := by
  subst hl
  refine wp_region_factsS sOV (specAt (spOV B V8 X Y Rr)) skOV (by kernel_rfl) (by decide +kernel) (by decide) (fun t ht => ?_) specAt.next hguOV hgnOV hskOV (hopOV E) (fun a x q size defers other facts => ?_)
  · rw [hsz]
    revert t
    decide
  · obtain ⟨v9, t9, f9⟩ := facts 9 4 rfl
    have f9 : v9 = .int .u32 (Rr : Int) := f9
    subst f9
    obtain ⟨v10, t10, f10⟩ := facts 10 5 rfl
    have f10 : v10 = .int .i64 0 := f10
    subst f10
    exact ⟨hR a x q defers t9 t10⟩
/-- A quotient, rounded, is the units' sample. -/
theorem Val.over {s : Bool} {n : Nat} {e z : Int} (h : Val s n e z) (h0 : z ≠ 0) {k : Nat} (hk : 0 < k) : roundR (divR (.fin s n e false) (.fin false k 0 false)) = exV z k := by
  have hn : n ≠ 0 := fun g => h0 (h.zero.1 g)
  have zn : zeroB (.fin s n e false) = false := by show (decide (n = 0) && !false) = false; rw [decide_eq_false hn]; rfl
  have zk : zeroB (.fin false k 0 false) = false := by show (decide (k = 0) && !false) = false; rw [decide_eq_false (by omega)]; rfl
  have hd : divR (.fin s n e false) (.fin false k 0 false) = .fin (s != false) (n * 2 ^ shV n k / k) (e - 0 - (shV n k : Int)) (!decide (n * 2 ^ shV n k % k = 0)) := by
    show (if zeroB (.fin s n e false) = true ∨ zeroB (.fin false k 0 false) = true then _ else _) = _
    rw [if_neg (by rw [zn, zk]; simp)]
  rw [hd]
  show Ieee.single.word (s != false) (rungOf Ieee.single (2 * (n * 2 ^ shV n k / k) + (!decide (n * 2 ^ shV n k % k = 0)).toNat) (e - 0 - (shV n k : Int) - 1)) = _
  have hq := quo_big hn (show k ≠ 0 by omega)
  have hsq : 2 * (n * 2 ^ shV n k / k) + (!decide (n * 2 ^ shV n k % k = 0)).toNat = sqV n k (shV n k) := by
    unfold sqV
    by_cases g : n * 2 ^ shV n k % k = 0
    · rw [if_pos g, decide_eq_true g]; rfl
    · rw [if_neg g, decide_eq_false g]; rfl
  have hlo := h.lo
  rw [hsq, Int.sub_zero, ex_ref (j := (e + 151).toNat) (by omega) hk (Nat.le_trans (by decide) hq), h.size]
  unfold exV
  rw [← h.sign h0]
  cases s <;> rfl
theorem few_val {s : Bool} {n : Nat} {e z : Int} (h : Val s n e z) (hz : 2 * z.natAbs < m64 ^ 5) : few (.fin s n e false) := by
  have h1 := h.le
  have h2 := blen_fits hz
  have h3 : blen n ≤ blen z.natAbs := blen_le (Nat.lt_of_le_of_lt h1 (blen_lt _))
  exact ⟨by omega, by have := h.lo; omega, by have := h.hi; omega, rfl⟩
theorem few_int {k : Nat} (h : k ≤ 4294967295) : few (.fin false k 0 false) := ⟨Nat.le_trans (blen_le (k := 32) (by omega)) (by decide), by decide, by decide, rfl⟩
set_option maxHeartbeats 8000000 in
theorem sover_any (l : List Nat) (B : Nat) (w : World) (hS : SAt w B l) (h0 : l ≠ []) (hz : 2 * (sumZ l).natAbs < m64 ^ 5) (hn : l.length ≤ 1000000) (k : Nat) (k1 : 1 ≤ k) (k2 : k ≤ 4294967295) :
    Calls Tryd.prog 39 #[.pointer (some ⟨B, 0, none⟩), .int .i64 (k : Int)] w fun e w' => e = .returned (.tuple #[.int .u32 (sumV l k : Nat), .int .i64 0]) ∧ Q w w' := by
  have HS : Hid (SAt w B l) := hS
  have HP : Hid _ := special_any l B w hS
  have HT : Hid (∀ x, Q w x → Calls Tryd.prog 41 #[.pointer (some ⟨B, 0, none⟩)] x fun e w' => e = .returned (.int .u32 (sumV l 1 : Nat)) ∧ Q x w') := fun x q => told_any l B x (hS.next q) hz hn
  obtain ⟨k0, s, p, L, C, e, m, h1, h2⟩ := hS
  have d5 := h1.n
  have c0 := h1.b.c0
  have c1 := h1.b.c1
  have c2 := h1.b.c2
  have c3 := h1.b.c3
  have c4 := h1.b.c4
  have hb0 : ((l.length : Int) == 0) = false := by
    rw [beq_eq_false_iff_ne]
    have : l.length ≠ 0 := fun g => h0 (List.eq_nil_of_length_eq_zero g)
    omega
  by_cases hm : metV l < 4
  · have HV : Hid _ := sumV_fin hm k
    have HV1 : Hid _ := sumV_fin hm 1
    rw [decide_eq_false (show ¬ 4 ≤ metV l by omega), show spcV (metV l) = 0 from if_pos hm] at HP
    obtain ⟨n, hn1, hv1⟩ := h2 h0
    have HN : Hid (NumAt w (num5 k0 s p L C e m) (.fin s n e false)) := hn1
    by_cases hz0 : sumZ l = 0
    · have hn0 : n = 0 := hv1.zero.2 hz0
      have HR : Hid (sumV l 1 = sumV l k) := by
        show sumV l 1 = sumV l k
        rw [HV.out, HV1.out]
        simp [hz0]
      clear h1 h2 hm HV HV1 h0 hz hn1 hv1 hz0
      go_enter Tryd.func39, Tryd.ntmps39
      go_wp2_with fail
      refine Calls.mono HP.out ?_
      rintro e1 w1 ⟨rfl, rfl⟩
      go_wp2_with fail
      refine (zero_q _ _ _ HN.out).mono ?_
      rintro e1 w2 ⟨rfl, q2⟩
      rw [zeroB_fin, decide_eq_true hn0]
      have HQ2 : Hid (Q w1 w2) := q2
      go_wp2_with fail
      refine (HT.out _ HQ2.out).mono ?_
      rintro e1 w3 ⟨rfl, q3⟩
      rw [HR.out]
      have HQ3 : Hid (Q w1 w3) := HQ2.out.trans q3
      clear q2 q3
      go_wp2_with fail
      go_ret2
      exact ⟨rfl, HQ3.out⟩
    · have hn0 : n ≠ 0 := fun g => hz0 (hv1.zero.1 g)
      have HR : Hid (roundR (divR (.fin s n e false) (.fin false k 0 false)) = sumV l k) := by
        show _ = sumV l k
        rw [HV.out, if_pos hz0, hv1.over hz0 (by omega)]
      have hlt : sumV l k < 4294967296 := by rw [← HR.out]; exact roundR_lt _
      have HFx : Hid (few (.fin s n e false)) := few_val hv1 hz
      have HFy : Hid (few (.fin false k 0 false)) := few_int k2
      have ek : IntKind.u64.wrap (k : Int) = (k : Int) := by rw [IntKind.wrap_u64]; omega
      have HBx : Hid (NBox w B (.fin s n e false)) := ⟨k0, s, p, L, C, e, m, h1.b, hn1⟩
      clear h1 h2 hm HV HV1 h0 hz hn1 hv1 hz0 HT HS
      generalize sumV l k = Rr at *
      go_enter Tryd.func39, Tryd.ntmps39
      go_wp2_with fail
      refine Calls.mono HP.out ?_
      rintro e1 w1 ⟨rfl, rfl⟩
      go_wp2_with fail
      refine (zero_q _ _ _ HN.out).mono ?_
      rintro e1 w2 ⟨rfl, q2⟩
      rw [zeroB_fin, decide_eq_false hn0]
      have HQ2 : Hid (Q w1 w2) := q2
      clear q2 c0 c1 c2 c3 c4 d5
      go_wp2_with fail
      refine (natof_nat k w2 (by omega)).mono ?_
      rintro e1 w3 ⟨v, rfl, hv, q3⟩
      obtain ⟨pv, bv, Lv, Cv, rfl, hvI⟩ := hv
      have HNk : Hid (NatAt w3 (.slice pv Lv Cv) k) := ⟨pv, bv, Lv, Cv, rfl, hvI⟩
      have HQ3 : Hid (Q w1 w3) := HQ2.out.trans q3
      clear q3 hvI
      have q34 : Q w3 (w3.alloc (.cells #[.int .i64 2, .bool false, .slice pv Lv Cv, .int .i64 0, .bool false] 43)) := (Q.refl w3).cells _ _
      have n8 : NBox (w3.alloc (.cells #[.int .i64 2, .bool false, .slice pv Lv Cv, .int .i64 0, .bool false] 43)) w3.heap.size (.fin false k 0 false) := by
        refine ⟨2, false, pv, Lv, Cv, 0, false, ⟨?_, ?_, ?_, ?_, ?_⟩, ⟨_, rfl, q34.nat HNk.out⟩⟩ <;> simp [go_sem]
      have HN8 : Hid _ := n8
      have HQ4 : Hid (Q w1 (w3.alloc (.cells #[.int .i64 2, .bool false, .slice pv Lv Cv, .int .i64 0, .bool false] 43))) := HQ3.out.trans q34
      clear n8 q34
      go_wp2_with fail
      refine regionOV (B := B) (V8 := w3.heap.size) (X := .fin s n e false) (Y := .fin false k 0 false) (Rr := Rr) rfl (by simp) ⟨rfl, rfl, HBx.out.next HQ4.out, HN8.out, HFx.out, HFy.out, HR.out, by rw [IntKind.wrap_u32]; omega⟩ ?_
      intro a x q4 hdef t4 t5
      have H5 : Hid (Q w1 x) := HQ4.out.trans q4
      clear q4
      go_wp2_with fail
      obtain ⟨tm, dd⟩ := a
      have df : dd = [] := hdef
      subst df
      have t4' : tm[4]? = some (.int .u32 (Rr : Int)) := t4
      have t5' : tm[5]? = some (.int .i64 0) := t5
      refine bodyPost_ret (v := .tuple #[.int .u32 (Rr : Nat), .int .i64 0]) (by simp [results, Tryd.results39, go_sem, t4', t5']) rfl ⟨rfl, H5.out⟩
  · have HR : Hid (sumV l k = spcV (metV l)) := sumV_spc hm k
    rw [decide_eq_true (show 4 ≤ metV l by omega)] at HP
    generalize spcV (metV l) = V at *
    clear h1 h2 hm hz h0
    rw [HR.out]
    go_enter Tryd.func39, Tryd.ntmps39
    go_wp2_with fail
    refine Calls.mono HP.out ?_
    rintro e1 w1 ⟨rfl, rfl⟩
    go_wp2_with fail
    go_ret2
    exact ⟨rfl, Q.refl _⟩
end Go.Proofs.YtmgpaheobhfioaaDoor
/- Plain facts: what is told of a list of samples does not hang on their order; a sample and its negative leave it. -/
namespace Go.Proofs.YtmgpaheobhfioaaDoor
open Go.RowKit
set_option linter.unusedVariables false
set_option linter.unusedSimpArgs false

end Go.Proofs.YtmgpaheobhfioaaDoor
/- Two samples of a list change places, in whatever order the language takes. -/
namespace Go.Proofs.YtmgpaheobhfioaaDoor
open Go.RowKit
set_option linter.unusedVariables false
set_option linter.unusedSimpArgs false

section
variable {ρ : Operand → Value} {x : World} {d : Option Tmp} {ty : TypeId} {ps : String} {af : Array Edge} {gd : Option (Nat × Bool)}
end
end Go.Proofs.YtmgpaheobhfioaaDoor
