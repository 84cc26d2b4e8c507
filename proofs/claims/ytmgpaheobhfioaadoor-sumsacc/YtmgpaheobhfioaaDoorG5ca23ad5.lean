/- The document's Over of an exact sum: it told, divided by a number. (gen_tyw.py) -/
import Derived.Test.YtmgpaheobhfioaaDoorG0896ea7b
import Derived.Test.YtmgpaheobhfioaaDoorG95cfc35d
import Derived.Test.YtmgpaheobhfioaaDoorG6dc8acda
import Derived.Test.YtmgpaheobhfioaaDoorGc6c2317b
import Derived.Test.YtmgpaheobhfioaaDoorG24259f96
import Derived.Test.YtmgpaheobhfioaaDoorG8dbd2455
import Derived.Test.YtmgpaheobhfioaaDoorGe9f3539d
import Derived.Test.YtmgpaheobhfioaaDoorG04bdf37f
namespace Go.Proofs.YtmgpaheobhfioaaDoor
open Go.RowKit
set_option linter.unusedVariables false
set_option linter.unusedSimpArgs false
set_option maxRecDepth 100000

section
variable {P : Program} {ρ : Operand → Value} {x : World} {d : Option Tmp} {ty : TypeId} {ps : String} {af : Array Edge} {g : Option (Nat × Bool)}
theorem run_nckW {j : Nat} {p : Addr} (h : ρ (.tmp j) = .pointer (some p)) : (execOp ρ { dst := d, op := .nilCheck (.tmp j), type := ty, pos := ps, after := af, guard := g }).run P x = .ok (.value (.pointer (some p))) x := by
  simp [execOp, h, go_sem]
theorem run_faW {j b : Nat} (h : ρ (.tmp j) = .pointer (some ⟨b, 0, none⟩)) : (execOp ρ { dst := d, op := .fieldAddr 98 (.tmp j) 0, type := ty, pos := ps, after := af, guard := g }).run Tryd.prog x = .ok (.value (.pointer (some ⟨b, 0, none⟩))) x := by
  simp [execOp, h, go_sem]
theorem run_cvW {j : Nat} {n m : Int} (h : ρ (.tmp j) = .int .u64 n) (hw : IntKind.u32.wrap n = m) : (execOp ρ { dst := d, op := .convert 48 36 (.tmp j), type := ty, pos := ps, after := af, guard := g }).run Tryd.prog x = .ok (.value (.int .u32 m)) x := by
  simp [execOp, h, go_sem, hw]
end
def spR (X : RNum) : Spec := ⟨fun v x => NumAt x v X, fun h q => q.num h⟩
def oOV_0 : Oper := { dst := some 42, op := .call { callee := .value (.func 16), args := #[], argTypes := #[] }, type := 45, pos := "halideref3.go:155", after := #[], guard := none }
def oOV_1 : Oper := { dst := some 43, op := .move (.tmp 0), type := 72, pos := "halideref3.go:155", after := #[], guard := none }
def oOV_2 : Oper := { dst := some 44, op := .nilCheck (.tmp 43), type := 0, pos := "halideref3.go:155", after := #[⟨1, .data⟩], guard := none }
def oOV_3 : Oper := { dst := some 45, op := .fieldAddr 98 (.tmp 44) 0, type := 0, pos := "halideref3.go:155", after := #[⟨2, .data⟩], guard := none }
def oOV_4 : Oper := { dst := some 46, op := .load 43 (.tmp 45), type := 43, pos := "halideref3.go:155", after := #[⟨3, .data⟩], guard := none }
def oOV_5 : Oper := { dst := some 47, op := .load 43 (.tmp 8), type := 43, pos := "halideref3.go:155", after := #[], guard := none }
def oOV_6 : Oper := { dst := some 48, op := .call { callee := .value (.func 63), args := #[.tmp 46, .tmp 47], argTypes := #[43, 43] }, type := 43, pos := "halideref3.go:155", after := #[⟨4, .data⟩, ⟨5, .data⟩, ⟨0, .chain⟩], guard := none }
def oOV_7 : Oper := { dst := some 49, op := .call { callee := .value (.func 62), args := #[.tmp 42, .tmp 48], argTypes := #[45, 43] }, type := 48, pos := "halideref3.go:155", after := #[⟨0, .data⟩, ⟨6, .data⟩, ⟨6, .chain⟩], guard := none }
def oOV_8 : Oper := { dst := some 50, op := .convert 48 36 (.tmp 49), type := 36, pos := "halideref3.go:155", after := #[⟨7, .data⟩], guard := none }
def oOV_9 : Oper := { dst := some 4, op := .assign (.tmp 50), type := 36, pos := "halideref3.go:155", after := #[⟨8, .data⟩, ⟨7, .chain⟩, ⟨0, .phase⟩, ⟨1, .phase⟩, ⟨2, .phase⟩, ⟨3, .phase⟩, ⟨4, .phase⟩, ⟨5, .phase⟩, ⟨6, .phase⟩, ⟨7, .phase⟩, ⟨8, .phase⟩], guard := none }
def oOV_10 : Oper := { dst := some 5, op := .assign (.const (.int .i64 0)), type := 3, pos := "halideref3.go:155", after := #[⟨9, .chain⟩, ⟨0, .phase⟩, ⟨1, .phase⟩, ⟨2, .phase⟩, ⟨3, .phase⟩, ⟨4, .phase⟩, ⟨5, .phase⟩, ⟨6, .phase⟩, ⟨7, .phase⟩, ⟨8, .phase⟩, ⟨9, .phase⟩], guard := none }
def opsOV : List Oper := [oOV_0, oOV_1, oOV_2, oOV_3, oOV_4, oOV_5, oOV_6, oOV_7, oOV_8, oOV_9, oOV_10]
def sOV : List Nat := [42, 43, 44, 45, 46, 47, 48, 49, 50, 4, 5]
def spOV (B V8 : Nat) (X Y : RNum) (Rr : Nat) : List Spec := [spV (.agg #[.int .i64 23, .int .i64 8]), spV (.pointer (some ⟨B, 0, none⟩)), spV (.pointer (some ⟨B, 0, none⟩)), spV (.pointer (some ⟨B, 0, none⟩)), spR X, spR Y, spR (divR X Y), spV (.int .u64 (Rr : Int)), spV (.int .u32 (Rr : Int)), spV (.int .u32 (Rr : Int)), spV (.int .i64 0)]
structure EnvOV (a0 : Act) (w : World) (B V8 : Nat) (X Y : RNum) (Rr : Nat) : Prop where
  h0 : a0.tmps[0]? = some (.pointer (some ⟨B, 0, none⟩))
  h8 : a0.tmps[8]? = some (.pointer (some ⟨V8, 0, none⟩))
  nB : NBox w B X
  n8 : NBox w V8 Y
  fx : few X
  fy : few Y
  eR : roundR (divR X Y) = Rr
  eW : IntKind.u32.wrap (Rr : Int) = (Rr : Int)
def skOV (i : Nat) : Bool := [].contains i
theorem yOV_0 {a0 : Act} {w : World} {B V8 : Nat} {X Y : RNum} {Rr : Nat} (E : EnvOV a0 w B V8 X Y Rr) {R : Exit → Act → World → Prop} {a : Act} {x : World} (q : Q w x) (oth : ∀ j, j ∉ sOV → a.tmps[j]? = a0.tmps[j]?) (dep : ∀ ed ∈ oOV_0.after, Region.binds .any ed = true → ∀ t', sOV[ed.on]? = some t' → ∃ v, a.tmps[t']? = some v ∧ specAt (spOV B V8 X Y Rr) ed.on v x) : Yld Tryd.prog R oOV_0 a x 42 (specAt (spOV B V8 X Y Rr) 0) := by
  refine yld_call (enters_of Tryd.func16 (by kernel_rfl) rfl) (vs := #[]) (by simp) ((f32_any x).mono ?_)
  rintro u x' ⟨rfl, q'⟩
  exact ⟨_, rfl, q', rfl⟩
theorem yOV_1 {a0 : Act} {w : World} {B V8 : Nat} {X Y : RNum} {Rr : Nat} (E : EnvOV a0 w B V8 X Y Rr) {R : Exit → Act → World → Prop} {a : Act} {x : World} (q : Q w x) (oth : ∀ j, j ∉ sOV → a.tmps[j]? = a0.tmps[j]?) (dep : ∀ ed ∈ oOV_1.after, Region.binds .any ed = true → ∀ t', sOV[ed.on]? = some t' → ∃ v, a.tmps[t']? = some v ∧ specAt (spOV B V8 X Y Rr) ed.on v x) : Yld Tryd.prog R oOV_1 a x 43 (specAt (spOV B V8 X Y Rr) 1) := by
  exact yld_move ((oth 0 (by decide)).trans E.h0) rfl
theorem yOV_2 {a0 : Act} {w : World} {B V8 : Nat} {X Y : RNum} {Rr : Nat} (E : EnvOV a0 w B V8 X Y Rr) {R : Exit → Act → World → Prop} {a : Act} {x : World} (q : Q w x) (oth : ∀ j, j ∉ sOV → a.tmps[j]? = a0.tmps[j]?) (dep : ∀ ed ∈ oOV_2.after, Region.binds .any ed = true → ∀ t', sOV[ed.on]? = some t' → ∃ v, a.tmps[t']? = some v ∧ specAt (spOV B V8 X Y Rr) ed.on v x) : Yld Tryd.prog R oOV_2 a x 44 (specAt (spOV B V8 X Y Rr) 2) := by
  obtain ⟨v1, t1, f1⟩ := dep ⟨1, .data⟩ (by simp [oOV_2]) rfl 43 rfl
  have f1 : v1 = (.pointer (some ⟨B, 0, none⟩)) := f1
  subst f1
  exact yld_run (x' := x) rfl (run_nckW (tmp_eval t1)) (Q.refl x) rfl
theorem yOV_3 {a0 : Act} {w : World} {B V8 : Nat} {X Y : RNum} {Rr : Nat} (E : EnvOV a0 w B V8 X Y Rr) {R : Exit → Act → World → Prop} {a : Act} {x : World} (q : Q w x) (oth : ∀ j, j ∉ sOV → a.tmps[j]? = a0.tmps[j]?) (dep : ∀ ed ∈ oOV_3.after, Region.binds .any ed = true → ∀ t', sOV[ed.on]? = some t' → ∃ v, a.tmps[t']? = some v ∧ specAt (spOV B V8 X Y Rr) ed.on v x) : Yld Tryd.prog R oOV_3 a x 45 (specAt (spOV B V8 X Y Rr) 3) := by
  obtain ⟨v2, t2, f2⟩ := dep ⟨2, .data⟩ (by simp [oOV_3]) rfl 44 rfl
  have f2 : v2 = (.pointer (some ⟨B, 0, none⟩)) := f2
  subst f2
  exact yld_run (x' := x) rfl (run_faW (tmp_eval t2)) (Q.refl x) rfl
theorem yOV_4 {a0 : Act} {w : World} {B V8 : Nat} {X Y : RNum} {Rr : Nat} (E : EnvOV a0 w B V8 X Y Rr) {R : Exit → Act → World → Prop} {a : Act} {x : World} (q : Q w x) (oth : ∀ j, j ∉ sOV → a.tmps[j]? = a0.tmps[j]?) (dep : ∀ ed ∈ oOV_4.after, Region.binds .any ed = true → ∀ t', sOV[ed.on]? = some t' → ∃ v, a.tmps[t']? = some v ∧ specAt (spOV B V8 X Y Rr) ed.on v x) : Yld Tryd.prog R oOV_4 a x 46 (specAt (spOV B V8 X Y Rr) 4) := by
  obtain ⟨v3, t3, f3⟩ := dep ⟨3, .data⟩ (by simp [oOV_4]) rfl 45 rfl
  have f3 : v3 = (.pointer (some ⟨B, 0, none⟩)) := f3
  subst f3
  obtain ⟨k, s, p, L, C, e, m, b1, b2⟩ := E.nB.next q
  exact yld_run (x' := x) rfl (run_num (tmp_eval t3) b1) (Q.refl x) b2
theorem yOV_5 {a0 : Act} {w : World} {B V8 : Nat} {X Y : RNum} {Rr : Nat} (E : EnvOV a0 w B V8 X Y Rr) {R : Exit → Act → World → Prop} {a : Act} {x : World} (q : Q w x) (oth : ∀ j, j ∉ sOV → a.tmps[j]? = a0.tmps[j]?) (dep : ∀ ed ∈ oOV_5.after, Region.binds .any ed = true → ∀ t', sOV[ed.on]? = some t' → ∃ v, a.tmps[t']? = some v ∧ specAt (spOV B V8 X Y Rr) ed.on v x) : Yld Tryd.prog R oOV_5 a x 47 (specAt (spOV B V8 X Y Rr) 5) := by
  obtain ⟨k, s, p, L, C, e, m, b1, b2⟩ := E.n8.next q
  exact yld_run (x' := x) rfl (run_num (tmp_eval ((oth 8 (by decide)).trans E.h8)) b1) (Q.refl x) b2
theorem yOV_6 {a0 : Act} {w : World} {B V8 : Nat} {X Y : RNum} {Rr : Nat} (E : EnvOV a0 w B V8 X Y Rr) {R : Exit → Act → World → Prop} {a : Act} {x : World} (q : Q w x) (oth : ∀ j, j ∉ sOV → a.tmps[j]? = a0.tmps[j]?) (dep : ∀ ed ∈ oOV_6.after, Region.binds .any ed = true → ∀ t', sOV[ed.on]? = some t' → ∃ v, a.tmps[t']? = some v ∧ specAt (spOV B V8 X Y Rr) ed.on v x) : Yld Tryd.prog R oOV_6 a x 48 (specAt (spOV B V8 X Y Rr) 6) := by
  obtain ⟨v4, t4, f4⟩ := dep ⟨4, .data⟩ (by simp [oOV_6]) rfl 46 rfl
  have f4 : (spR X).p v4 x := f4
  obtain ⟨v5, t5, f5⟩ := dep ⟨5, .data⟩ (by simp [oOV_6]) rfl 47 rfl
  have f5 : (spR Y).p v5 x := f5
  refine yld_call (enters_of Tryd.func63 (by kernel_rfl) rfl) (args2 t4 t5) ((divnum_any _ _ _ _ x f4 f5 E.fx E.fy).mono ?_)
  rintro u x' ⟨v, rfl, h, q'⟩
  exact ⟨v, rfl, q', h⟩
theorem yOV_7 {a0 : Act} {w : World} {B V8 : Nat} {X Y : RNum} {Rr : Nat} (E : EnvOV a0 w B V8 X Y Rr) {R : Exit → Act → World → Prop} {a : Act} {x : World} (q : Q w x) (oth : ∀ j, j ∉ sOV → a.tmps[j]? = a0.tmps[j]?) (dep : ∀ ed ∈ oOV_7.after, Region.binds .any ed = true → ∀ t', sOV[ed.on]? = some t' → ∃ v, a.tmps[t']? = some v ∧ specAt (spOV B V8 X Y Rr) ed.on v x) : Yld Tryd.prog R oOV_7 a x 49 (specAt (spOV B V8 X Y Rr) 7) := by
  obtain ⟨v0, t0, f0⟩ := dep ⟨0, .data⟩ (by simp [oOV_7]) rfl 42 rfl
  have f0 : v0 = (.agg #[.int .i64 23, .int .i64 8]) := f0
  subst f0
  obtain ⟨v6, t6, f6⟩ := dep ⟨6, .data⟩ (by simp [oOV_7]) rfl 48 rfl
  have f6 : (spR (divR X Y)).p v6 x := f6
  refine yld_call (enters_of Tryd.func62 (by kernel_rfl) rfl) (args2 t0 t6) ((round32_any _ _ x f6 (divR_fits E.fx E.fy)).mono ?_)
  rintro u x' ⟨rfl, q'⟩
  exact ⟨_, rfl, q', by rw [E.eR]; rfl⟩
theorem yOV_8 {a0 : Act} {w : World} {B V8 : Nat} {X Y : RNum} {Rr : Nat} (E : EnvOV a0 w B V8 X Y Rr) {R : Exit → Act → World → Prop} {a : Act} {x : World} (q : Q w x) (oth : ∀ j, j ∉ sOV → a.tmps[j]? = a0.tmps[j]?) (dep : ∀ ed ∈ oOV_8.after, Region.binds .any ed = true → ∀ t', sOV[ed.on]? = some t' → ∃ v, a.tmps[t']? = some v ∧ specAt (spOV B V8 X Y Rr) ed.on v x) : Yld Tryd.prog R oOV_8 a x 50 (specAt (spOV B V8 X Y Rr) 8) := by
  obtain ⟨v7, t7, f7⟩ := dep ⟨7, .data⟩ (by simp [oOV_8]) rfl 49 rfl
  have f7 : v7 = (.int .u64 (Rr : Int)) := f7
  subst f7
  exact yld_run (x' := x) rfl (run_cvW (tmp_eval t7) E.eW) (Q.refl x) rfl
theorem yOV_9 {a0 : Act} {w : World} {B V8 : Nat} {X Y : RNum} {Rr : Nat} (E : EnvOV a0 w B V8 X Y Rr) {R : Exit → Act → World → Prop} {a : Act} {x : World} (q : Q w x) (oth : ∀ j, j ∉ sOV → a.tmps[j]? = a0.tmps[j]?) (dep : ∀ ed ∈ oOV_9.after, Region.binds .any ed = true → ∀ t', sOV[ed.on]? = some t' → ∃ v, a.tmps[t']? = some v ∧ specAt (spOV B V8 X Y Rr) ed.on v x) : Yld Tryd.prog R oOV_9 a x 4 (specAt (spOV B V8 X Y Rr) 9) := by
  obtain ⟨v8, t8, f8⟩ := dep ⟨8, .data⟩ (by simp [oOV_9]) rfl 50 rfl
  have f8 : v8 = (.int .u32 (Rr : Int)) := f8
  subst f8
  exact yld_run (x' := x) rfl (by rw [← tmp_eval t8]; rfl) (Q.refl x) rfl
theorem yOV_10 {a0 : Act} {w : World} {B V8 : Nat} {X Y : RNum} {Rr : Nat} (E : EnvOV a0 w B V8 X Y Rr) {R : Exit → Act → World → Prop} {a : Act} {x : World} (q : Q w x) (oth : ∀ j, j ∉ sOV → a.tmps[j]? = a0.tmps[j]?) (dep : ∀ ed ∈ oOV_10.after, Region.binds .any ed = true → ∀ t', sOV[ed.on]? = some t' → ∃ v, a.tmps[t']? = some v ∧ specAt (spOV B V8 X Y Rr) ed.on v x) : Yld Tryd.prog R oOV_10 a x 5 (specAt (spOV B V8 X Y Rr) 10) := by
  exact yld_run (x' := x) rfl rfl (Q.refl x) rfl
theorem hopOV {a0 : Act} {w : World} {B V8 : Nat} {X Y : RNum} {Rr : Nat} (E : EnvOV a0 w B V8 X Y Rr) {R : Exit → Act → World → Prop} : ∀ (i t : Nat) (o : Oper) (a : Act) (x : World), skOV i = false → sOV[i]? = some t → opsOV[i]? = some o → Q w x → (∀ j, j ∉ sOV → a.tmps[j]? = a0.tmps[j]?) → (∀ ed ∈ o.after, Region.binds .any ed = true → ∀ t', sOV[ed.on]? = some t' → ∃ v, a.tmps[t']? = some v ∧ specAt (spOV B V8 X Y Rr) ed.on v x) → Yld Tryd.prog R o a x t (specAt (spOV B V8 X Y Rr) i)
  | 0, t, o, a, x, hi, ht, ho, q, oth, dep => by
    have e1 : oOV_0 = o := Option.some.inj ho
    have e2 : 42 = t := Option.some.inj ht
    subst e1 e2
    exact yOV_0 E q oth dep
  | 1, t, o, a, x, hi, ht, ho, q, oth, dep => by
    have e1 : oOV_1 = o := Option.some.inj ho
    have e2 : 43 = t := Option.some.inj ht
    subst e1 e2
    exact yOV_1 E q oth dep
  | 2, t, o, a, x, hi, ht, ho, q, oth, dep => by
    have e1 : oOV_2 = o := Option.some.inj ho
    have e2 : 44 = t := Option.some.inj ht
    subst e1 e2
    exact yOV_2 E q oth dep
  | 3, t, o, a, x, hi, ht, ho, q, oth, dep => by
    have e1 : oOV_3 = o := Option.some.inj ho
    have e2 : 45 = t := Option.some.inj ht
    subst e1 e2
    exact yOV_3 E q oth dep
  | 4, t, o, a, x, hi, ht, ho, q, oth, dep => by
    have e1 : oOV_4 = o := Option.some.inj ho
    have e2 : 46 = t := Option.some.inj ht
    subst e1 e2
    exact yOV_4 E q oth dep
  | 5, t, o, a, x, hi, ht, ho, q, oth, dep => by
    have e1 : oOV_5 = o := Option.some.inj ho
    have e2 : 47 = t := Option.some.inj ht
    subst e1 e2
    exact yOV_5 E q oth dep
  | 6, t, o, a, x, hi, ht, ho, q, oth, dep => by
    have e1 : oOV_6 = o := Option.some.inj ho
    have e2 : 48 = t := Option.some.inj ht
    subst e1 e2
    exact yOV_6 E q oth dep
  | 7, t, o, a, x, hi, ht, ho, q, oth, dep => by
    have e1 : oOV_7 = o := Option.some.inj ho
    have e2 : 49 = t := Option.some.inj ht
    subst e1 e2
    exact yOV_7 E q oth dep
  | 8, t, o, a, x, hi, ht, ho, q, oth, dep => by
    have e1 : oOV_8 = o := Option.some.inj ho
    have e2 : 50 = t := Option.some.inj ht
    subst e1 e2
    exact yOV_8 E q oth dep
  | 9, t, o, a, x, hi, ht, ho, q, oth, dep => by
    have e1 : oOV_9 = o := Option.some.inj ho
    have e2 : 4 = t := Option.some.inj ht
    subst e1 e2
    exact yOV_9 E q oth dep
  | 10, t, o, a, x, hi, ht, ho, q, oth, dep => by
    have e1 : oOV_10 = o := Option.some.inj ho
    have e2 : 5 = t := Option.some.inj ht
    subst e1 e2
    exact yOV_10 E q oth dep
  | i + 11, t, o, a, x, hi, ht, ho, q, oth, dep => by cases ho
theorem keyOV : ∀ i, i < 11 → ((opsOV[i]?).bind (fun o : Oper => o.guard) = none ∧ skOV i = false) := by decide +kernel
theorem hguOV {B V8 : Nat} {X Y : RNum} {Rr : Nat} : ∀ (i : Nat) (o : Oper) (g : Nat) (b : Bool), opsOV[i]? = some o → o.guard = some (g, b) → ∀ v x, specAt (spOV B V8 X Y Rr) g v x → (v = .bool b ↔ skOV i = false) := by
  intro i o g b ho hg v x hf
  have h := keyOV i (List.getElem?_eq_some_iff.1 ho).1
  rw [ho] at h
  simp only [Option.bind_some] at h
  rw [hg] at h
  rcases h with ⟨h, _⟩
  · cases h
theorem hgnOV : ∀ (i : Nat) (o : Oper), opsOV[i]? = some o → o.guard = none → skOV i = false := by
  intro i o ho hg
  have h := keyOV i (List.getElem?_eq_some_iff.1 ho).1
  rw [ho] at h
  simp only [Option.bind_some] at h
  rw [hg] at h
  rcases h with ⟨_, h⟩
  · exact h
theorem hskOV {B V8 : Nat} {X Y : RNum} {Rr : Nat} : ∀ (i : Nat) (x : World), skOV i = true → specAt (spOV B V8 X Y Rr) i undef x := by
  intro i x h
  cases h
theorem regionOV {id : Nat} {l : List Oper} {R : Exit → Act → World → Prop} {a0 : Act} {w : World} {B V8 : Nat} {X Y : RNum} {Rr : Nat} (hl : l = opsOV) (hsz : a0.tmps.size = 51) (E : EnvOV a0 w B V8 X Y Rr)
    (hR : ∀ (a : Act) x, Q w x → a.defers = a0.defers → a.tmps[4]? = some (.int .u32 (Rr : Int)) → a.tmps[5]? = some (.int .i64 0) → R .normal a x) :
    (Code.region id l.toArray true).wp Tryd.prog R a0 w := by
  subst hl
  refine wp_region_factsS sOV (specAt (spOV B V8 X Y Rr)) skOV (by kernel_rfl) (by decide +kernel) (by decide) (fun t ht => ?_) specAt.next hguOV hgnOV hskOV (hopOV E) (fun a x q size defers other facts => ?_)
  · rw [hsz]
    revert t
    decide
  · obtain ⟨v9, t9, f9⟩ := facts 9 4 rfl
    have f9 : v9 = .int .u32 (Rr : Int) := f9
    subst f9
    obtain ⟨v10, t10, f10⟩ := facts 10 5 rfl
    have f10 : v10 = .int .i64 0 := f10
    subst f10
    exact ⟨hR a x q defers t9 t10⟩
/-- A quotient, rounded, is the units' sample. -/
theorem Val.over {s : Bool} {n : Nat} {e z : Int} (h : Val s n e z) (h0 : z ≠ 0) {k : Nat} (hk : 0 < k) : roundR (divR (.fin s n e false) (.fin false k 0 false)) = exV z k := by
  have hn : n ≠ 0 := fun g => h0 (h.zero.1 g)
  have zn : zeroB (.fin s n e false) = false := by show (decide (n = 0) && !false) = false; rw [decide_eq_false hn]; rfl
  have zk : zeroB (.fin false k 0 false) = false := by show (decide (k = 0) && !false) = false; rw [decide_eq_false (by omega)]; rfl
  have hd : divR (.fin s n e false) (.fin false k 0 false) = .fin (s != false) (n * 2 ^ shV n k / k) (e - 0 - (shV n k : Int)) (!decide (n * 2 ^ shV n k % k = 0)) := by
    show (if zeroB (.fin s n e false) = true ∨ zeroB (.fin false k 0 false) = true then _ else _) = _
    rw [if_neg (by rw [zn, zk]; simp)]
  rw [hd]
  show Ieee.single.word (s != false) (rungOf Ieee.single (2 * (n * 2 ^ shV n k / k) + (!decide (n * 2 ^ shV n k % k = 0)).toNat) (e - 0 - (shV n k : Int) - 1)) = _
  have hq := quo_big hn (show k ≠ 0 by omega)
  have hsq : 2 * (n * 2 ^ shV n k / k) + (!decide (n * 2 ^ shV n k % k = 0)).toNat = sqV n k (shV n k) := by
    unfold sqV
    by_cases g : n * 2 ^ shV n k % k = 0
    · rw [if_pos g, decide_eq_true g]; rfl
    · rw [if_neg g, decide_eq_false g]; rfl
  have hlo := h.lo
  rw [hsq, Int.sub_zero, ex_ref (j := (e + 151).toNat) (by omega) hk (Nat.le_trans (by decide) hq), h.size]
  unfold exV
  rw [← h.sign h0]
  cases s <;> rfl
theorem few_val {s : Bool} {n : Nat} {e z : Int} (h : Val s n e z) (hz : 2 * z.natAbs < m64 ^ 5) : few (.fin s n e false) := by
  have h1 := h.le
  have h2 := blen_fits hz
  have h3 : blen n ≤ blen z.natAbs := blen_le (Nat.lt_of_le_of_lt h1 (blen_lt _))
  exact ⟨by omega, by have := h.lo; omega, by have := h.hi; omega, rfl⟩
theorem few_int {k : Nat} (h : k ≤ 4294967295) : few (.fin false k 0 false) := ⟨Nat.le_trans (blen_le (k := 32) (by omega)) (by decide), by decide, by decide, rfl⟩
set_option maxHeartbeats 8000000 in
theorem sover_any (l : List Nat) (B : Nat) (w : World) (hS : SAt w B l) (h0 : l ≠ []) (hz : 2 * (sumZ l).natAbs < m64 ^ 5) (hn : l.length ≤ 1000000) (k : Nat) (k1 : 1 ≤ k) (k2 : k ≤ 4294967295) :
    Calls Tryd.prog 39 #[.pointer (some ⟨B, 0, none⟩), .int .i64 (k : Int)] w fun e w' => e = .returned (.tuple #[.int .u32 (sumV l k : Nat), .int .i64 0]) ∧ Q w w' := by
  have HS : Hid (SAt w B l) := hS
  have HP : Hid _ := special_any l B w hS
  have HT : Hid (∀ x, Q w x → Calls Tryd.prog 41 #[.pointer (some ⟨B, 0, none⟩)] x fun e w' => e = .returned (.int .u32 (sumV l 1 : Nat)) ∧ Q x w') := fun x q => told_any l B x (hS.next q) hz hn
  obtain ⟨k0, s, p, L, C, e, m, h1, h2⟩ := hS
  have d5 := h1.n
  have c0 := h1.b.c0
  have c1 := h1.b.c1
  have c2 := h1.b.c2
  have c3 := h1.b.c3
  have c4 := h1.b.c4
  have hb0 : ((l.length : Int) == 0) = false := by
    rw [beq_eq_false_iff_ne]
    have : l.length ≠ 0 := fun g => h0 (List.eq_nil_of_length_eq_zero g)
    omega
  by_cases hm : metV l < 4
  · have HV : Hid _ := sumV_fin hm k
    have HV1 : Hid _ := sumV_fin hm 1
    rw [decide_eq_false (show ¬ 4 ≤ metV l by omega), show spcV (metV l) = 0 from if_pos hm] at HP
    obtain ⟨n, hn1, hv1⟩ := h2 h0
    have HN : Hid (NumAt w (num5 k0 s p L C e m) (.fin s n e false)) := hn1
    by_cases hz0 : sumZ l = 0
    · have hn0 : n = 0 := hv1.zero.2 hz0
      have HR : Hid (sumV l 1 = sumV l k) := by
        show sumV l 1 = sumV l k
        rw [HV.out, HV1.out]
        simp [hz0]
      clear h1 h2 hm HV HV1 h0 hz hn1 hv1 hz0
      go_enter Tryd.func39, Tryd.ntmps39
      go_wp2_with fail
      refine Calls.mono HP.out ?_
      rintro e1 w1 ⟨rfl, rfl⟩
      go_wp2_with fail
      refine (zero_q _ _ _ HN.out).mono ?_
      rintro e1 w2 ⟨rfl, q2⟩
      rw [zeroB_fin, decide_eq_true hn0]
      have HQ2 : Hid (Q w1 w2) := q2
      go_wp2_with fail
      refine (HT.out _ HQ2.out).mono ?_
      rintro e1 w3 ⟨rfl, q3⟩
      rw [HR.out]
      have HQ3 : Hid (Q w1 w3) := HQ2.out.trans q3
      clear q2 q3
      go_wp2_with fail
      go_ret2
      exact ⟨rfl, HQ3.out⟩
    · have hn0 : n ≠ 0 := fun g => hz0 (hv1.zero.1 g)
      have HR : Hid (roundR (divR (.fin s n e false) (.fin false k 0 false)) = sumV l k) := by
        show _ = sumV l k
        rw [HV.out, if_pos hz0, hv1.over hz0 (by omega)]
      have hlt : sumV l k < 4294967296 := by rw [← HR.out]; exact roundR_lt _
      have HFx : Hid (few (.fin s n e false)) := few_val hv1 hz
      have HFy : Hid (few (.fin false k 0 false)) := few_int k2
      have ek : IntKind.u64.wrap (k : Int) = (k : Int) := by rw [IntKind.wrap_u64]; omega
      have HBx : Hid (NBox w B (.fin s n e false)) := ⟨k0, s, p, L, C, e, m, h1.b, hn1⟩
      clear h1 h2 hm HV HV1 h0 hz hn1 hv1 hz0 HT HS
      generalize sumV l k = Rr at *
      go_enter Tryd.func39, Tryd.ntmps39
      go_wp2_with fail
      refine Calls.mono HP.out ?_
      rintro e1 w1 ⟨rfl, rfl⟩
      go_wp2_with fail
      refine (zero_q _ _ _ HN.out).mono ?_
      rintro e1 w2 ⟨rfl, q2⟩
      rw [zeroB_fin, decide_eq_false hn0]
      have HQ2 : Hid (Q w1 w2) := q2
      clear q2 c0 c1 c2 c3 c4 d5
      go_wp2_with fail
      refine (natof_nat k w2 (by omega)).mono ?_
      rintro e1 w3 ⟨v, rfl, hv, q3⟩
      obtain ⟨pv, bv, Lv, Cv, rfl, hvI⟩ := hv
      have HNk : Hid (NatAt w3 (.slice pv Lv Cv) k) := ⟨pv, bv, Lv, Cv, rfl, hvI⟩
      have HQ3 : Hid (Q w1 w3) := HQ2.out.trans q3
      clear q3 hvI
      have q34 : Q w3 (w3.alloc (.cells #[.int .i64 2, .bool false, .slice pv Lv Cv, .int .i64 0, .bool false] 43)) := (Q.refl w3).cells _ _
      have n8 : NBox (w3.alloc (.cells #[.int .i64 2, .bool false, .slice pv Lv Cv, .int .i64 0, .bool false] 43)) w3.heap.size (.fin false k 0 false) := by
        refine ⟨2, false, pv, Lv, Cv, 0, false, ⟨?_, ?_, ?_, ?_, ?_⟩, ⟨_, rfl, q34.nat HNk.out⟩⟩ <;> simp [go_sem]
      have HN8 : Hid _ := n8
      have HQ4 : Hid (Q w1 (w3.alloc (.cells #[.int .i64 2, .bool false, .slice pv Lv Cv, .int .i64 0, .bool false] 43))) := HQ3.out.trans q34
      clear n8 q34
      go_wp2_with fail
      refine regionOV (B := B) (V8 := w3.heap.size) (X := .fin s n e false) (Y := .fin false k 0 false) (Rr := Rr) rfl (by simp) ⟨rfl, rfl, HBx.out.next HQ4.out, HN8.out, HFx.out, HFy.out, HR.out, by rw [IntKind.wrap_u32]; omega⟩ ?_
      intro a x q4 hdef t4 t5
      have H5 : Hid (Q w1 x) := HQ4.out.trans q4
      clear q4
      go_wp2_with fail
      obtain ⟨tm, dd⟩ := a
      have df : dd = [] := hdef
      subst df
      have t4' : tm[4]? = some (.int .u32 (Rr : Int)) := t4
      have t5' : tm[5]? = some (.int .i64 0) := t5
      refine bodyPost_ret (v := .tuple #[.int .u32 (Rr : Nat), .int .i64 0]) (by simp [results, Tryd.results39, go_sem, t4', t5']) rfl ⟨rfl, H5.out⟩
  · have HR : Hid (sumV l k = spcV (metV l)) := sumV_spc hm k
    rw [decide_eq_true (show 4 ≤ metV l by omega)] at HP
    generalize spcV (metV l) = V at *
    clear h1 h2 hm hz h0
    rw [HR.out]
    go_enter Tryd.func39, Tryd.ntmps39
    go_wp2_with fail
    refine Calls.mono HP.out ?_
    rintro e1 w1 ⟨rfl, rfl⟩
    go_wp2_with fail
    go_ret2
    exact ⟨rfl, Q.refl _⟩
end Go.Proofs.YtmgpaheobhfioaaDoor
/- Lists of whole numbers in memory. -/
namespace Go.Proofs.YtmgpaheobhfioaaDoor
open Go.RowKit
set_option linter.unusedVariables false
set_option linter.unusedSimpArgs false

/-- A list of whole numbers in memory. -/
def ISl (w : World) (v : Value) (l : List Int) : Prop := (∃ g o cap, v = .slice (some ⟨g, o, none⟩) l.length cap ∧ ∀ i, i < l.length → w.cell? ⟨g, o + i, none⟩ = some (.int .i64 (l.getD i 0))) ∨ (∃ a c, v = .slice a 0 c ∧ l = [])
theorem ISl.next {w w' : World} {v : Value} {l : List Int} (h : ISl w v l) (q : Q w w') : ISl w' v l := by
  rcases h with ⟨g, o, cap, h1, h2⟩ | h
  · exact Or.inl ⟨g, o, cap, h1, fun i hi => q.cell (h2 i hi)⟩
  · exact Or.inr h
theorem ISl.form {w : World} {v : Value} {l : List Int} (h : ISl w v l) : ∃ a cap, v = .slice a l.length cap := by
  rcases h with ⟨g, o, cap, h1, h2⟩ | ⟨a, c, h1, h2⟩
  · exact ⟨_, _, h1⟩
  · subst h2; exact ⟨a, c, h1⟩
theorem ISl.some {w : World} {v : Value} {l : List Int} (h : ISl w v l) (h1 : 1 ≤ l.length) : ∃ g o cap, v = .slice (some ⟨g, o, none⟩) l.length cap ∧ ∀ i, i < l.length → w.cell? ⟨g, o + i, none⟩ = some (.int .i64 (l.getD i 0)) := by
  rcases h with h | ⟨_, _, _, h2⟩
  · exact h
  · subst h2; cases h1
end Go.Proofs.YtmgpaheobhfioaaDoor
/- Sums of products with weights, where each product is a number. -/
namespace Go.Proofs.YtmgpaheobhfioaaDoor
open Go.RowKit
set_option linter.unusedVariables false
set_option linter.unusedSimpArgs false

/-- The sum of products. -/
def dotF (l : List Nat) : Nat := if l = [] then 0 else l.foldl add64V 9223372036854775808
set_option maxHeartbeats 4000000 in
set_option maxRecDepth 100000 in
theorem dot_fin (vw vl : Value) (W : List Int) (S Ps : List Nat) (w : World) (hw : ISl w vw W) (hl : USl w vl S) (hn : S.length ≤ 35184372087808) (he : W.length = S.length) (hb : ∀ i, S.getD i 0 < 4294967296)
    (hW : ∀ i, i < W.length → W.getD i 0 ≤ 268435456 ∧ -268435456 ≤ W.getD i 0) (hP : Ps.length = S.length) (hp : ∀ i, i < S.length → floatBits .mul .f64 (floatOfInt .f64 (W.getD i 0)) (wideW (S.getD i 0)) = some (Ps.getD i 0)) :
    Calls Tryd.prog 55 #[vw, vl] w fun e w' => ∃ X : Nat, e = .returned (.tuple #[.float .f64 X, .int .i64 0]) ∧ X < 18446744073709551616 ∧ canW X = dotF Ps ∧ Q w w' := by
  obtain ⟨aw, cw, rfl⟩ := hw.form
  obtain ⟨al, cl, rfl⟩ := hl.form
  have hn' : W.length ≤ 35184372087808 := by rw [he]; exact hn
  have ne0 : ((W.length : Int) != (S.length : Int)) = false := by rw [he]; simp
  have HS : Hid (USl w (.slice al S.length cl) S) := hl
  have HI : Hid (ISl w (.slice aw W.length cw) W) := hw
  have HB : Hid (∀ i, S.getD i 0 < 4294967296) := hb
  have HW : Hid _ := hW
  have HP : Hid _ := hp
  have HE : Hid (W.length = S.length) := he
  have HL : Hid (Ps.length = S.length) := hP
  clear hl hw hb hW hp he hP
  go_enter Tryd.func55, Tryd.ntmps55
  go_wp2_with fail
  go_loopg [19] (W.length) (fun gh s19 wr => ∃ i : Nat, s19 = .int .i64 (i : Int) ∧ i ≤ W.length ∧ gh = W.length - i ∧ wr = w)
  case atStart => exact ⟨0, rfl, by omega, rfl, rfl⟩
  case round =>
    obtain ⟨i, rfl, hi, rfl, rfl⟩ := hrel
    by_cases hlt : i < W.length
    · obtain ⟨g, o, cap', hsl, hI⟩ := HI.out.some (by omega)
      injection hsl with hs1 hs2 hs3
      subst hs1 hs3
      clear hs2
      have hc := hI i hlt
      obtain ⟨h1, h2⟩ := HW.out i hlt
      have h1' : ¬ 268435456 < W.getD i 0 := by omega
      have h2' : ¬ W.getD i 0 < -268435456 := by omega
      generalize W.getD i 0 = x at *
      clear hI h1 h2
      go_wp2_with fail
      go_roundg (W.length - (i + 1))
      case measure => go_light; omega
      case rel => go_light; exact ⟨i + 1, by simp, by omega, rfl, rfl⟩
    · obtain rfl : i = W.length := by omega
      have hge : ¬ (W.length : Int) < (W.length : Int) := by omega
      by_cases h0 : S.length = 0
      · have b0 : ((S.length : Int) == 0) = true := by rw [h0]; rfl
        have HF : Hid (dotF Ps = 0) := by
          show dotF Ps = 0
          rw [List.eq_nil_of_length_eq_zero (HL.out.trans h0)]; rfl
        clear h0
        go_wp2_with fail
        go_ret2
        exact ⟨0, rfl, by decide, by rw [HF.out]; decide +kernel, Q.refl _⟩
      · have b0 : ((S.length : Int) == 0) = false := by rw [beq_eq_false_iff_ne]; omega
        have HF : Hid (dotF Ps = Ps.foldl add64V 9223372036854775808) := by
          show dotF Ps = _
          unfold dotF
          rw [if_neg (fun e => h0 (by rw [← HL.out, e]; rfl))]
        clear h0
        go_wp2_with fail
        refine (copysign_any _).mono ?_
        rintro e w0 ⟨rfl, rfl⟩
        go_wp2_with fail
        go_loopg [8, 36] (S.length) (fun gh s8 s36 wr => ∃ i X : Nat, s8 = .float .f64 X ∧ Hid (canW X = (Ps.take i).foldl add64V 9223372036854775808) ∧ X < 18446744073709551616 ∧ s36 = .int .i64 (i : Int) ∧ i ≤ S.length ∧ gh = S.length - i ∧ Q w0 wr)
        case atStart => exact ⟨0, 9223372036854775808, rfl, (show canW 9223372036854775808 = 9223372036854775808 by decide +kernel), by decide, rfl, by omega, rfl, Q.refl _⟩
        case round =>
          obtain ⟨i, X, rfl, HX, hX, rfl, hi2, rfl, qr⟩ := hrel
          by_cases hlt : i < S.length
          · obtain ⟨g, o, cap', hsl, hcap, hI⟩ := HS.out.some (by omega)
            injection hsl with hs1 hs2 hs3
            subst hs1 hs3
            clear hs2
            have hwi : i < W.length := by rw [HE.out]; exact hlt
            have hwi' : (i : Int) < (W.length : Int) := by omega
            obtain ⟨g2, o2, cap2, hsl2, hI2⟩ := HI.out.some (by omega)
            injection hsl2 with hs1 hs2 hs3
            subst hs1 hs3
            clear hs2
            have hc := qr.cell (hI i hlt)
            have hc2 := qr.cell (hI2 i hwi)
            have hx := HB.out i
            have hpi := HP.out i hlt
            have HFo : Hid ((Ps.take (i + 1)).foldl add64V 9223372036854775808 = add64V ((Ps.take i).foldl add64V 9223372036854775808) (Ps.getD i 0)) := take_succ_foldl _ _ _ _ (by rw [HL.out]; exact hlt)
            have HQ : Hid (Q w0 wr) := qr
            generalize S.getD i 0 = x at *
            generalize W.getD i 0 = y at *
            generalize Ps.getD i 0 = p at *
            have HC : Hid (∀ X', canW X' = add64V X p → canW X' = (Ps.take (i + 1)).foldl add64V 9223372036854775808) := fun X' h => by rw [HFo.out, ← HX.out, can_sum]; exact h
            have l1 := fun w => run_float_arith (P := Tryd.prog) w .mul 86 .f64 _ _ _ hpi
            have SW : Hid (∀ n : QW wr, Calls Tryd.prog 53 #[.int .u32 (x : Int)] n.x fun e w' => e = .returned (.float .f64 (wideW x)) ∧ Q n.x w') := fun n => swide_any x hx n.x
            clear qr HFo HX hI hI2 hpi
            have dc2 := qw_cell hc2
            have n0 := qw_some wr
            go_wp2_with fail
            refine wp_region_quiet_Q (by kernel_rfl) (by kernel_rfl) ?_
            repeat (first | go_big_quiet_step (first | (go_at_call 53; exact calls_qw (SW.out _))) | quiet_step (first | (go_at_call 53; exact calls_qw (SW.out _))))
            refine wpQuiet_nil ?_
            intro w4 hw'
            have hq4 := qw_out hw'
            clear hw' n0 dc2 SW hc hc2
            cases hd : (Ieee.double.read X).sum (Ieee.double.read p) with
            | none =>
              have hf : floatBits .add .f64 X p = none := by
                show ((Ieee.double.read X).sum (Ieee.double.read p)).map Ieee.double.write = none
                rw [hd]; rfl
              have l2 := fun w => run_arith_none .add (by simp) 86 .f64 X p hf Tryd.prog w
              have HE2 : Hid (add64V X p = 9221120237041090560) := by show add64V X p = _; unfold add64V; rw [hd]; rfl
              clear hd hf l1
              go_wp2_with fail
              go_roundg (S.length - (i + 1))
              case measure => go_light; omega
              case rel =>
                go_light
                exact ⟨i + 1, _, rfl, HC.out _ (by rw [HE2.out]; exact can_none _ _ _), (nanw64 _ _ _).2, by simp, by omega, rfl, (HQ.out.trans hq4).drew⟩
            | some d =>
              have hf : floatBits .add .f64 X p = some (Ieee.double.write d) := by
                show ((Ieee.double.read X).sum (Ieee.double.read p)).map Ieee.double.write = _
                rw [hd]; rfl
              have l2 := fun w => run_float_arith (P := Tryd.prog) w .add 86 .f64 X p _ hf
              have HE2 : Hid (add64V X p = told64 (some d)) := by show add64V X p = _; unfold add64V; rw [hd]
              have HD : Hid (d.isNaN = false) := sum_num hd
              clear hd hf l1
              go_wp2_with fail
              go_roundg (S.length - (i + 1))
              case measure => go_light; omega
              case rel =>
                go_light
                exact ⟨i + 1, _, rfl, HC.out _ (by rw [HE2.out]; exact can_some HD.out), write64_lt _, by simp, by omega, rfl, HQ.out.trans hq4⟩
          · obtain rfl : i = S.length := by omega
            have hge2 : ¬ (S.length : Int) < (S.length : Int) := by omega
            have HQ : Hid (Q w0 wr) := qr
            have HZ : Hid (canW X = dotF Ps) := by
              show canW X = dotF Ps
              rw [HF.out, HX.out, ← HL.out, List.take_of_length_le (Nat.le_refl _)]
            clear qr HX
            go_wp2_with fail
            go_ret2
            exact ⟨X, rfl, hX, HZ.out, HQ.out⟩
set_option maxHeartbeats 1000000 in
theorem dot_short (vw vl : Value) (W : List Int) (S : List Nat) (w : World) (hw : ISl w vw W) (hl : USl w vl S) (he : W.length ≠ S.length) :
    Calls Tryd.prog 55 #[vw, vl] w fun e w' => e = .returned (.tuple #[.float .f64 0, .int .i64 30]) ∧ w' = w := by
  obtain ⟨aw, cw, rfl⟩ := hw.form
  obtain ⟨al, cl, rfl⟩ := hl.form
  have ne0 : ((W.length : Int) != (S.length : Int)) = true := by rw [bne_iff_ne]; omega
  clear hw hl he
  go_enter Tryd.func55, Tryd.ntmps55
  go_wp2_with fail
  go_ret2
  exact ⟨rfl, rfl⟩
set_option maxHeartbeats 1000000 in
theorem dot64_short (vw vl : Value) (W : List Int) (S : List Nat) (w : World) (hw : ISl w vw W) (hl : USl w vl S) (he : W.length ≠ S.length) :
    Calls Tryd.prog 29 #[vw, vl] w fun e w' => e = .returned (.tuple #[.int .u64 0, .int .i64 30]) ∧ w' = w := by
  have HD : Hid _ := dot_short vw vl W S w hw hl he
  clear hw hl he
  go_enter Tryd.func29, Tryd.ntmps29
  go_wp2_with fail
  refine Calls.mono HD.out ?_
  rintro e w1 ⟨rfl, rfl⟩
  go_wp2_with fail
  go_ret2
  exact ⟨rfl, rfl⟩
set_option maxHeartbeats 1000000 in
theorem dot64_of {vw vl : Value} {w : World} {D : Nat} (H : Calls Tryd.prog 55 #[vw, vl] w fun e w' => ∃ X : Nat, e = .returned (.tuple #[.float .f64 X, .int .i64 0]) ∧ X < 18446744073709551616 ∧ canW X = D ∧ Q w w') :
    Calls Tryd.prog 29 #[vw, vl] w fun e w' => e = .returned (.tuple #[.int .u64 (D : Nat), .int .i64 0]) ∧ Q w w' := by
  have HD : Hid _ := H
  clear H
  go_enter Tryd.func29, Tryd.ntmps29
  go_wp2_with fail
  refine Calls.mono HD.out ?_
  rintro e w1 ⟨X, rfl, hX, hc, q1⟩
  have HC : Hid (canW X = D) := hc
  clear hc
  go_wp2_with fail
  refine (widebits_any X hX _).mono ?_
  rintro e w2 ⟨rfl, rfl⟩
  rw [HC.out]
  go_wp2_with fail
  go_ret2
  exact ⟨rfl, q1⟩
/-- A 65536th of a binary64, as a sample. -/
def overW (X : Nat) : Nat := match floatBits .quo .f64 X 4679240012837945344 with
  | none => 2143289344
  | some Z => toldD (some (Ieee.double.read Z))
theorem quo_nan {X : Nat} (h : nan64 X = true) : floatBits .quo .f64 X 4679240012837945344 = none := by
  obtain ⟨s, t, e⟩ := isNaN_cases (read64_nan h)
  show ((Ieee.double.read X).quotient (Ieee.double.fractionBits + 2) (Ieee.double.read 4679240012837945344)).map Ieee.double.write = none
  rw [e]
  rfl
theorem told_nan {X : Nat} (h : nan64 X = true) : toldD (some (Ieee.double.read X)) = 2143289344 := by
  obtain ⟨s, t, e⟩ := isNaN_cases (read64_nan h)
  rw [e]
  rfl
theorem over_can (X : Nat) : overW (canW X) = overW X := by
  unfold canW
  cases h : nan64 X
  · rfl
  · rw [if_pos rfl]
    unfold overW
    rw [quo_nan h, quo_nan made64]
set_option maxHeartbeats 1000000 in
theorem dot_of {vw vl : Value} {w : World} {D : Nat} (H : Calls Tryd.prog 55 #[vw, vl] w fun e w' => ∃ X : Nat, e = .returned (.tuple #[.float .f64 X, .int .i64 0]) ∧ X < 18446744073709551616 ∧ canW X = D ∧ Q w w') :
    Calls Tryd.prog 30 #[vw, vl] w fun e w' => e = .returned (.tuple #[.int .u32 (overW D : Nat), .int .i64 0]) ∧ Q w w' := by
  have HD : Hid _ := H
  clear H
  go_enter Tryd.func30, Tryd.ntmps30
  go_wp2_with fail
  refine Calls.mono HD.out ?_
  rintro e w1 ⟨X, rfl, hX, hc, q1⟩
  have HO : Hid (overW D = overW X) := by
    show overW D = overW X
    rw [← hc, over_can]
  clear hc
  cases hf : floatBits .quo .f64 X 4679240012837945344 with
  | none =>
    have l2 := fun w => run_arith_none .quo (by simp) 86 .f64 X 4679240012837945344 hf Tryd.prog w
    have HT : Hid (overW X = 2143289344) := by
      show overW X = _
      unfold overW; rw [hf]
    clear hf
    go_wp2_with fail
    refine (snarrow_any _ _).mono ?_
    rintro e w2 ⟨rfl, q2⟩
    rw [told_nan (nanw64 _ _ _).1]
    go_wp2_with fail
    go_ret2
    exact ⟨by rw [HO.out, HT.out]; rfl, (q1.drew).trans q2⟩
  | some Z =>
    have l2 := fun w => run_float_arith (P := Tryd.prog) w .quo 86 .f64 X 4679240012837945344 _ hf
    have HT : Hid (overW X = toldD (some (Ieee.double.read Z))) := by
      show overW X = _
      unfold overW; rw [hf]
    clear hf
    go_wp2_with fail
    refine (snarrow_any _ _).mono ?_
    rintro e w2 ⟨rfl, q2⟩
    rw [← HT.out, ← HO.out]
    go_wp2_with fail
    go_ret2
    exact ⟨rfl, q1.trans q2⟩
end Go.Proofs.YtmgpaheobhfioaaDoor
/- The chapter's examples: what the program tells of them. -/
namespace Go.Proofs.YtmgpaheobhfioaaDoor
open Go.RowKit
set_option linter.unusedVariables false
set_option linter.unusedSimpArgs false
set_option maxRecDepth 100000

def kl1 : List Nat := [1065353216, 864026624, 864026624]
def kl2 : List Nat := [2130706432, 2130706432, 4278190080]
def kl3 : List Nat := [2147483648, 2147483648]
def kl4 : List Nat := [1065353216, 864026624]
def kl5 : List Nat := [1065353216, 1077936128]
def kl6 : List Nat := [1065353216, 1065353216, 1]
theorem k1 : leftV kl1 = 1065353216 := by decide +kernel
theorem k2 : pairsV kl1 = 1065353217 := by decide +kernel
theorem k3 : sumV kl1 1 = 1065353217 := by decide +kernel
theorem k4 : kahV kl1 = 1065353217 := by decide +kernel
theorem k5 : left64V kl1 = 4607182419336888320 := by decide +kernel
theorem k6 : leftV kl2 = 2139095040 := by decide +kernel
theorem k7 : sumV kl2 1 = 2130706432 := by decide +kernel
theorem k8 : sumV kl3 1 = 2147483648 := by decide +kernel
theorem k9a : floatBits .mul .f64 (floatOfInt .f64 1) (wideW 1065353216) = some 4607182418800017408 := by decide +kernel
theorem k9b : floatBits .mul .f64 (floatOfInt .f64 (-1)) (wideW 864026624) = some 13722468064597901312 := by decide +kernel
theorem k9 : dotF [4607182418800017408, 13722468064597901312] = 4607182418263146496 := by decide +kernel
theorem k10a : floatBits .mul .f64 (floatOfInt .f64 32768) (wideW 1065353216) = some 4674736413210574848 := by decide +kernel
theorem k10b : floatBits .mul .f64 (floatOfInt .f64 32768) (wideW 1077936128) = some 4681491812651630592 := by decide +kernel
theorem k10 : overW (dotF [4674736413210574848, 4681491812651630592]) = 1073741824 := by decide +kernel
theorem k11 : overV [] 0 = (0, 33) := by decide +kernel
theorem k12 : sumV kl6 1 = 1073741824 := by decide +kernel
theorem k13 : overV kl6 3 = (1059760811, 0) := by decide +kernel
theorem k14 : sumV (kl6 ++ kl6) 1 = 1082130432 := by decide +kernel
theorem small_of {l : List Nat} (h : l.all (· < 4294967296) = true) : (∀ s ∈ l, s < 4294967296) ∧ ∀ i, l.getD i 0 < 4294967296 := by
  have h1 : ∀ s ∈ l, s < 4294967296 := fun s hs => by simpa using List.all_eq_true.1 h s hs
  refine ⟨h1, fun i => ?_⟩
  rcases Nat.lt_or_ge i l.length with g | g
  · rw [List.getD_eq_getElem?_getD, List.getElem?_eq_getElem g]
    exact h1 _ (List.getElem_mem g)
  · rw [List.getD_eq_getElem?_getD, List.getElem?_eq_none g]
    decide
/-- A list just made. -/
structure Lst (w : World) (v : Value) (l : List Nat) : Prop where
  u : USl w v l
  b : ∃ g c, v = .slice (some ⟨g, 0, none⟩) l.length c ∧ g < w.heap.size
theorem Lst.next {w w' : World} {v : Value} {l : List Nat} (h : Lst w v l) (q : Q w w') : Lst w' v l := by
  obtain ⟨u, g, c, e, hg⟩ := h
  exact ⟨u.next q, g, c, e, Nat.lt_of_lt_of_le hg q.1.size⟩
theorem lst3 (w : World) (a b c : Nat) (t : TypeId) : Lst (w.alloc (.cells #[.int .u32 (a : Int), .int .u32 (b : Int), .int .u32 (c : Int)] t)) (.slice (some ⟨w.heap.size, 0, none⟩) 3 3) [a, b, c] := by
  refine ⟨Or.inl ⟨w.heap.size, 0, 3, rfl, Nat.le_refl 3, fun i hi => ?_⟩, w.heap.size, 3, rfl, by simp [go_sem]⟩
  rcases i with _ | _ | _ | i
  · simp [go_sem]
  · simp [go_sem]
  · simp [go_sem]
  · simp at hi; omega
theorem lst2 (w : World) (a b : Nat) (t : TypeId) : Lst (w.alloc (.cells #[.int .u32 (a : Int), .int .u32 (b : Int)] t)) (.slice (some ⟨w.heap.size, 0, none⟩) 2 2) [a, b] := by
  refine ⟨Or.inl ⟨w.heap.size, 0, 2, rfl, Nat.le_refl 2, fun i hi => ?_⟩, w.heap.size, 2, rfl, by simp [go_sem]⟩
  rcases i with _ | _ | i
  · simp [go_sem]
  · simp [go_sem]
  · simp at hi; omega
theorem ist2 (w : World) (a b : Int) (t : TypeId) : ISl (w.alloc (.cells #[.int .i64 a, .int .i64 b] t)) (.slice (some ⟨w.heap.size, 0, none⟩) 2 2) [a, b] := by
  refine Or.inl ⟨w.heap.size, 0, 2, rfl, fun i hi => ?_⟩
  rcases i with _ | _ | i
  · simp [go_sem]
  · simp [go_sem]
  · simp at hi; omega
theorem ist1 (w : World) (a : Int) (t : TypeId) : ISl (w.alloc (.cells #[.int .i64 a] t)) (.slice (some ⟨w.heap.size, 0, none⟩) 1 1) [a] := by
  refine Or.inl ⟨w.heap.size, 0, 1, rfl, fun i hi => ?_⟩
  rcases i with _ | i
  · simp [go_sem]
  · simp at hi
theorem kn_left1 {v : Value} {w : World} (h : Lst w v kl1) : Calls Tryd.prog 24 #[v] w fun e w' => e = .returned (.int .u32 1065353216) ∧ Q w w' := by
  have := left_any v kl1 w h.u (by decide); rw [k1] at this; exact this
theorem kn_pairs {v : Value} {w : World} (h : Lst w v kl1) : Calls Tryd.prog 25 #[v] w fun e w' => e = .returned (.int .u32 1065353217) ∧ Q w w' := by
  have := pairs_any 3 v kl1 w (by decide) h.u (by decide); rw [k2] at this; exact this
theorem kn_kah {v : Value} {w : World} (h : Lst w v kl1) : Calls Tryd.prog 27 #[v] w fun e w' => e = .returned (.int .u32 1065353217) ∧ Q w w' := by
  have := kahan_any v kl1 w h.u (by decide); rw [k4] at this; exact this
theorem kn_left64 {v : Value} {w : World} (h : Lst w v kl1) : Calls Tryd.prog 28 #[v] w fun e w' => e = .returned (.int .u64 4607182419336888320) ∧ Q w w' := by
  have := left64_any v kl1 w h.u (by decide) (small_of (by decide)).2; rw [k5] at this; exact this
theorem kn_left2 {v : Value} {w : World} (h : Lst w v kl2) : Calls Tryd.prog 24 #[v] w fun e w' => e = .returned (.int .u32 2139095040) ∧ Q w w' := by
  have := left_any v kl2 w h.u (by decide); rw [k6] at this; exact this
theorem exact_lst {v : Value} {w : World} {l : List Nat} (h : Lst w v l) (hl : l.all (· < 4294967296) = true) (hn : l.length ≤ 2147483648) (hT : Tab w) : Calls Tryd.prog 26 #[v] w fun e w' => e = .returned (.int .u32 (sumV l 1 : Nat)) ∧ Q w w' := by
  refine exact_any v l w h.u (fun g o cap e => ?_) (small_of hl).2 hn hT
  obtain ⟨_, g2, c, e2, hg⟩ := h
  rw [e] at e2
  injection e2 with e3
  injection e3 with e3
  injection e3 with e3
  rw [e3]; exact hg
theorem kn_exact1 {v : Value} {w : World} (h : Lst w v kl1) (hT : Tab w) : Calls Tryd.prog 26 #[v] w fun e w' => e = .returned (.int .u32 1065353217) ∧ Q w w' := by
  have := exact_lst h (by decide) (by decide) hT; rw [k3] at this; exact this
theorem kn_exact2 {v : Value} {w : World} (h : Lst w v kl2) (hT : Tab w) : Calls Tryd.prog 26 #[v] w fun e w' => e = .returned (.int .u32 2130706432) ∧ Q w w' := by
  have := exact_lst h (by decide) (by decide) hT; rw [k7] at this; exact this
theorem kn_exact3 {v : Value} {w : World} (h : Lst w v kl3) (hT : Tab w) : Calls Tryd.prog 26 #[v] w fun e w' => e = .returned (.int .u32 2147483648) ∧ Q w w' := by
  have := exact_lst h (by decide) (by decide) hT; rw [k8] at this; exact this
theorem kn_dot64 {u v : Value} {w : World} (hw : ISl w u [1, -1]) (h : Lst w v kl4) : Calls Tryd.prog 29 #[u, v] w fun e w' => e = .returned (.tuple #[.int .u64 4607182418263146496, .int .i64 0]) ∧ Q w w' := by
  have := dot64_of (dot_fin u v [1, -1] kl4 [4607182418800017408, 13722468064597901312] w hw h.u (by decide) rfl (small_of (by decide)).2 (fun i hi => by
    rcases i with _ | _ | i
    · exact ⟨by decide, by decide⟩
    · exact ⟨by decide, by decide⟩
    · simp at hi; omega) rfl (fun i hi => by
    rcases i with _ | _ | i
    · exact k9a
    · exact k9b
    · simp [kl4] at hi; omega))
  rw [k9] at this; exact this
theorem kn_dot {u v : Value} {w : World} (hw : ISl w u [32768, 32768]) (h : Lst w v kl5) : Calls Tryd.prog 30 #[u, v] w fun e w' => e = .returned (.tuple #[.int .u32 1073741824, .int .i64 0]) ∧ Q w w' := by
  have := dot_of (dot_fin u v [32768, 32768] kl5 [4674736413210574848, 4681491812651630592] w hw h.u (by decide) rfl (small_of (by decide)).2 (fun i hi => by
    rcases i with _ | _ | i
    · exact ⟨by decide, by decide⟩
    · exact ⟨by decide, by decide⟩
    · simp at hi; omega) rfl (fun i hi => by
    rcases i with _ | _ | i
    · exact k10a
    · exact k10b
    · simp [kl5] at hi; omega))
  rw [k10] at this; exact this
theorem kn_short {u : Value} {w : World} (hw : ISl w u [1]) : Calls Tryd.prog 29 #[u, .slice none 0 0] w fun e w' => e = .returned (.tuple #[.int .u64 0, .int .i64 30]) ∧ w' = w :=
  dot64_short u (.slice none 0 0) [1] [] w hw (Or.inr ⟨none, 0, rfl, rfl⟩) (by decide)
theorem kn_mean0 {B : Nat} {w : World} (h : AccOf w B [] 0 (fun _ => 0)) (hT : Tab w) : Calls Tryd.prog 31 #[.pointer (some ⟨B, 0, none⟩)] w fun e w' => e = .returned (.tuple #[.int .u32 0, .int .i64 33]) ∧ Q w w' := by
  have := amean_any [] B 0 _ w h (sumZ_fits (by simp) (by decide)) hT
  rw [show ((0 : Nat) : Int) = 0 from rfl, k11] at this
  exact this
theorem kn_mean {B : Nat} {w : World} {N : Nat → Nat} (h : AccOf w B kl6 3 N) (hT : Tab w) : Calls Tryd.prog 31 #[.pointer (some ⟨B, 0, none⟩)] w fun e w' => e = .returned (.tuple #[.int .u32 1059760811, .int .i64 0]) ∧ Q w w' := by
  have := amean_any kl6 B 3 _ w h (sumZ_fits (small_of (by decide)).1 (by decide)) hT
  rw [show ((3 : Nat) : Int) = 3 from rfl, k13] at this
  exact this
theorem kn_sum {B c : Nat} {w : World} {N : Nat → Nat} (h : AccOf w B kl6 c N) (hT : Tab w) : Calls Tryd.prog 32 #[.pointer (some ⟨B, 0, none⟩)] w fun e w' => e = .returned (.int .u32 1073741824) ∧ Q w w' := by
  have := asum_any kl6 B c _ w h (sumZ_fits (small_of (by decide)).1 (by decide)) hT
  rw [k12] at this
  exact this
theorem kn_sum2 {B c : Nat} {w : World} {N : Nat → Nat} (h : AccOf w B (kl6 ++ kl6) c N) (hT : Tab w) : Calls Tryd.prog 32 #[.pointer (some ⟨B, 0, none⟩)] w fun e w' => e = .returned (.int .u32 1082130432) ∧ Q w w' := by
  have := asum_any (kl6 ++ kl6) B c _ w h (sumZ_fits (small_of (by decide)).1 (by decide)) hT
  rw [k14] at this
  exact this
set_option maxHeartbeats 8000000 in
theorem known_any (w : World) (hT : Tab w) : Calls Tryd.prog 5 #[] w fun e w' => e = .returned (.bool true) ∧ Q w w' := by
  have HT : Hid (Tab w) := hT
  clear hT
  go_enter Tryd.func5, Tryd.ntmps5
  go_wp2_with fail
  have HL : Hid (Lst _ _ kl1) := lst3 w 1065353216 864026624 864026624 36
  have HQ : Hid (Q w _) := (Q.refl w).cells #[.int .u32 1065353216, .int .u32 864026624, .int .u32 864026624] 36
  refine (kn_left1 HL.out).mono ?_
  rintro e w1 ⟨rfl, q1⟩
  have HL1 : Hid (Lst w1 _ kl1) := HL.out.next q1
  have HQ1 : Hid (Q w w1) := HQ.out.trans q1
  clear HL HQ q1
  go_wp2_with fail
  refine (kn_pairs HL1.out).mono ?_
  rintro e w2 ⟨rfl, q2⟩
  have HL2 : Hid (Lst w2 _ kl1) := HL1.out.next q2
  have HQ2 : Hid (Q w w2) := HQ1.out.trans q2
  clear HL1 HQ1 q2
  go_wp2_with fail
  refine (kn_exact1 HL2.out (HQ2.out.tab HT.out)).mono ?_
  rintro e w3 ⟨rfl, q3⟩
  have HL3 : Hid (Lst w3 _ kl1) := HL2.out.next q3
  have HQ3 : Hid (Q w w3) := HQ2.out.trans q3
  clear HL2 HQ2 q3
  go_wp2_with fail
  refine (kn_kah HL3.out).mono ?_
  rintro e w4 ⟨rfl, q4⟩
  have HL4 : Hid (Lst w4 _ kl1) := HL3.out.next q4
  have HQ4 : Hid (Q w w4) := HQ3.out.trans q4
  clear HL3 HQ3 q4
  go_wp2_with fail
  refine (kn_left64 HL4.out).mono ?_
  rintro e w5 ⟨rfl, q5⟩
  have HQ5 : Hid (Q w w5) := HQ4.out.trans q5
  clear HL4 HQ4 q5
  go_wp2_with fail
  have HQ6 : Hid (Q w _) := HQ5.out.cells #[.int .u32 2130706432, .int .u32 2130706432, .int .u32 4278190080] 36
  refine (kn_left2 (lst3 w5 2130706432 2130706432 4278190080 36)).mono ?_
  rintro e w6 ⟨rfl, q6⟩
  have HQ7 : Hid (Q w w6) := HQ6.out.trans q6
  clear HQ5 HQ6 q6
  go_wp2_with fail
  have HQ8 : Hid (Q w _) := HQ7.out.cells #[.int .u32 2130706432, .int .u32 2130706432, .int .u32 4278190080] 36
  refine (kn_exact2 (lst3 w6 2130706432 2130706432 4278190080 36) (HQ8.out.tab HT.out)).mono ?_
  rintro e w7 ⟨rfl, q7⟩
  have HQ9 : Hid (Q w w7) := HQ8.out.trans q7
  clear HQ7 HQ8 q7
  go_wp2_with fail
  have HQ10 : Hid (Q w _) := HQ9.out.cells #[.int .u32 2147483648, .int .u32 2147483648] 36
  refine (kn_exact3 (lst2 w7 2147483648 2147483648 36) (HQ10.out.tab HT.out)).mono ?_
  rintro e w8 ⟨rfl, q8⟩
  have HQ11 : Hid (Q w w8) := HQ10.out.trans q8
  clear HQ9 HQ10 q8
  go_wp2_with fail
  have qa : Q w8 (w8.alloc (.cells #[.int .i64 1, .int .i64 (-1)] 3)) := (Q.refl w8).cells _ _
  have qb : Q (w8.alloc (.cells #[.int .i64 1, .int .i64 (-1)] 3)) ((w8.alloc (.cells #[.int .i64 1, .int .i64 (-1)] 3)).alloc (.cells #[.int .u32 1065353216, .int .u32 864026624] 36)) := (Q.refl _).cells _ _
  have HQ12 : Hid (Q w _) := (HQ11.out.trans qa).trans qb
  have hL := lst2 (w8.alloc (.cells #[.int .i64 1, .int .i64 (-1)] 3)) 1065353216 864026624 36
  rw [show (w8.alloc (.cells #[.int .i64 1, .int .i64 (-1)] 3)).heap.size = w8.heap.size + 1 by simp [go_sem]] at hL
  refine (kn_dot64 ((ist2 w8 1 (-1) 3).next qb) hL).mono ?_
  rintro e w9 ⟨rfl, q9⟩
  have HQ13 : Hid (Q w w9) := HQ12.out.trans q9
  clear HQ11 HQ12 q9 qa qb hL
  go_wp2_with fail
  have qa : Q w9 (w9.alloc (.cells #[.int .i64 32768, .int .i64 32768] 3)) := (Q.refl w9).cells _ _
  have qb : Q (w9.alloc (.cells #[.int .i64 32768, .int .i64 32768] 3)) ((w9.alloc (.cells #[.int .i64 32768, .int .i64 32768] 3)).alloc (.cells #[.int .u32 1065353216, .int .u32 1077936128] 36)) := (Q.refl _).cells _ _
  have HQ14 : Hid (Q w _) := (HQ13.out.trans qa).trans qb
  have hL := lst2 (w9.alloc (.cells #[.int .i64 32768, .int .i64 32768] 3)) 1065353216 1077936128 36
  rw [show (w9.alloc (.cells #[.int .i64 32768, .int .i64 32768] 3)).heap.size = w9.heap.size + 1 by simp [go_sem]] at hL
  refine (kn_dot ((ist2 w9 32768 32768 3).next qb) hL).mono ?_
  rintro e w10 ⟨rfl, q10⟩
  have HQ15 : Hid (Q w w10) := HQ14.out.trans q10
  clear HQ13 HQ14 q10 qa qb hL
  go_wp2_with fail
  have HQ16 : Hid (Q w _) := HQ15.out.cells #[.int .i64 1] 3
  refine (kn_short (ist1 w10 1 3)).mono ?_
  rintro e w11 ⟨rfl, hw11⟩
  rw [← hw11] at HQ16
  clear hw11 HQ15
  go_wp2_with fail
  refine (new_any _).mono ?_
  rintro e w12 ⟨rfl, hA, q12, hs12⟩
  have HQ17 : Hid (Q w w12) := HQ16.out.trans q12
  have HA : Hid (AccOf w12 w11.heap.size [] 0 (fun _ => 0)) := hA
  have hlo : w.heap.size ≤ w11.heap.size := HQ16.out.1.size
  clear HQ16 q12 hA
  generalize w11.heap.size = A at *
  go_wp2_with fail
  refine (kn_mean0 HA.out (HQ17.out.tab HT.out)).mono ?_
  rintro e w13 ⟨rfl, q13⟩
  have HQ18 : Hid (Q w w13) := HQ17.out.trans q13
  have HA2 : Hid (AccOf w13 A [] 0 (fun _ => 0)) := HA.out.next q13
  have hs13 : A < w13.heap.size := Nat.lt_of_lt_of_le hs12 q13.1.size
  clear HQ17 q13 HA hs12
  go_wp2_with fail
  have q14 : Q w13 (w13.alloc (.cells #[.int .u32 1065353216, .int .u32 1065353216, .int .u32 1] 36)) := (Q.refl w13).cells _ _
  have HQ19 : Hid (Q w _) := HQ18.out.trans q14
  have hL := lst3 w13 1065353216 1065353216 1 36
  refine (acc_add _ kl6 [] A 0 _ _ (HA2.out.next q14) hL.u (fun g o cap _ e => by injection e with e; injection e with e; injection e with e; omega) (small_of (by decide)).2 (by decide)).mono ?_
  rintro e w15 ⟨rfl, ⟨N1, hA⟩, hF⟩
  have HQ20 : Hid (Q w w15) := hF.q HQ19.out hlo
  have HA3 : Hid (AccOf w15 A kl6 3 N1) := hA
  have hs15 : A < w15.heap.size := Nat.lt_of_lt_of_le (Nat.lt_of_lt_of_le hs13 q14.1.size) hF.size
  clear HQ18 HQ19 q14 HA2 hA hF hL hs13
  go_wp2_with fail
  refine (copy_any kl6 A 3 N1 _ HA3.out).mono ?_
  rintro e w16 ⟨rfl, hB, q16, hs16⟩
  have hne : A ≠ w15.heap.size := by omega
  have HB : Hid (AccOf w16 w15.heap.size kl6 3 N1) := hB
  have HA4 : Hid (AccOf w16 A kl6 3 N1) := HA3.out.next q16
  have HQ21 : Hid (Q w w16) := HQ20.out.trans q16
  have hlo2 : w.heap.size ≤ w15.heap.size := HQ20.out.1.size
  clear HA3 HQ20 hB q16 hs16 hs15
  generalize w15.heap.size = B at *
  go_wp2_with fail
  refine (merge_any kl6 kl6 B A 3 3 N1 N1 _ HB.out HA4.out (by decide)).mono ?_
  rintro e w17 ⟨rfl, hB2, hF⟩
  have HB2 : Hid (AccOf w17 B (kl6 ++ kl6) 6 (dgV N1 N1)) := hB2
  have HA5 : Hid (AccOf w17 A kl6 3 N1) := HA4.out.far hF hne
  have HQ22 : Hid (Q w w17) := hF.q HQ21.out hlo2
  clear HB HA4 HQ21 hF hB2
  go_wp2_with fail
  refine (kn_mean HA5.out (HQ22.out.tab HT.out)).mono ?_
  rintro e w18 ⟨rfl, q18⟩
  have HB3 : Hid (AccOf w18 B (kl6 ++ kl6) 6 (dgV N1 N1)) := HB2.out.next q18
  have HA6 : Hid (AccOf w18 A kl6 3 N1) := HA5.out.next q18
  have HQ23 : Hid (Q w w18) := HQ22.out.trans q18
  clear HB2 HA5 HQ22 q18
  go_wp2_with fail
  refine (kn_sum HA6.out (HQ23.out.tab HT.out)).mono ?_
  rintro e w19 ⟨rfl, q19⟩
  have HB4 : Hid (AccOf w19 B (kl6 ++ kl6) 6 (dgV N1 N1)) := HB3.out.next q19
  have HA7 : Hid (AccOf w19 A kl6 3 N1) := HA6.out.next q19
  have HQ24 : Hid (Q w w19) := HQ23.out.trans q19
  clear HB3 HA6 HQ23 q19
  go_wp2_with fail
  refine (acount_any A 3 _ HA7.out.c).mono ?_
  rintro e w20 ⟨rfl, rfl⟩
  go_wp2_with fail
  refine (acount_any B 6 _ HB4.out.c).mono ?_
  rintro e w21 ⟨rfl, rfl⟩
  go_wp2_with fail
  refine (kn_sum2 HB4.out (HQ24.out.tab HT.out)).mono ?_
  rintro e w22 ⟨rfl, q22⟩
  go_wp2_with fail
  go_ret
  exact ⟨rfl, HQ24.out.trans q22⟩
end Go.Proofs.YtmgpaheobhfioaaDoor
/- The statement SumsExact: its walk. -/
namespace Go.Proofs.YtmgpaheobhfioaaDoor
open Go.RowKit
set_option linter.unusedVariables false
set_option linter.unusedSimpArgs false

theorem mem_lt {S : List Nat} (h : ∀ i, S.getD i 0 < 4294967296) : ∀ s ∈ S, s < 4294967296 := fun s hs => by
  obtain ⟨i, hi, rfl⟩ := List.getElem_of_mem hs
  have := h i
  rw [List.getD_eq_getElem?_getD, List.getElem?_eq_getElem hi] at this
  exact this
end Go.Proofs.YtmgpaheobhfioaaDoor
