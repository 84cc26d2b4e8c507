/- SpaceBack: its regions that draw their order. -/
import Derived.Test.YtedafbbpcpebbaaGf243087d
namespace Go.Proofs.Ytedafbbpcpebbaa
open Go.RowKit
set_option linter.unusedVariables false
set_option linter.unusedSimpArgs false

def szQ (Z : Nat) : Spec := ⟨fun v x => Sz x v Z, fun h q => h.next q⟩
/-- A size that lies in a box. -/
def ZB (w : World) (V : Nat) (Z : Nat) : Prop := ∃ k s p L C e m, Box5 w V k s p L C e m ∧ Sz w (num5 k s p L C e m) Z
theorem ZB.next {w w' : World} {V Z : Nat} (h : ZB w V Z) (q : Q w w') : ZB w' V Z := by
  obtain ⟨k, s, p, L, C, e, m, h1, h2⟩ := h
  exact ⟨k, s, p, L, C, e, m, h1.next q, h2.next q⟩
theorem argsC {a : Act} {c : Value} : (#[Operand.const c] : Array Operand).map a.eval = #[c] := by
  have hc : a.eval (.const c) = c := rfl
  simp [hc]
theorem run_notb {ρ : Operand → Value} {x : World} {d : Option Tmp} {ty : TypeId} {ps : String} {af : Array Edge} {g : Option (Nat × Bool)} {j : Nat} {b : Bool} (h : ρ (.tmp j) = .bool b) : (execOp ρ { dst := d, op := .unOp .not 4 (.tmp j), type := ty, pos := ps, after := af, guard := g }).run Try.prog x = .ok (.value (.bool !b)) x := by
  simp [execOp, h, go_sem]
theorem run_orf {P : Program} {ρ : Operand → Value} {x : World} {d : Option Tmp} {ty : TypeId} {ps : String} {af : Array Edge} {g : Option (Nat × Bool)} {c j : Nat} {v : Value} (hc : ρ (.tmp c) = .bool false) (h : ρ (.tmp j) = v) {u : Value} : (execOp ρ { dst := d, op := .pick (.tmp c) (.const u) (.tmp j), type := ty, pos := ps, after := af, guard := g }).run P x = .ok (.value v) x := by
  simp [execOp, hc, h, go_sem]
def oBa_0 : Oper := { dst := some 32, op := .load 38 (.tmp 7), type := 38, pos := "outright.go:69", after := #[], guard := none }
def oBa_1 : Oper := { dst := some 33, op := .move (.tmp 1), type := 23, pos := "outright.go:69", after := #[], guard := none }
def oBa_2 : Oper := { dst := some 34, op := .call { callee := .value (.func 25), args := #[.tmp 33], argTypes := #[23] }, type := 38, pos := "outright.go:69", after := #[⟨1, .data⟩], guard := none }
def oBa_3 : Oper := { dst := some 35, op := .call { callee := .value (.func 26), args := #[.tmp 32, .tmp 34], argTypes := #[38, 38] }, type := 4, pos := "outright.go:69", after := #[⟨0, .data⟩, ⟨2, .data⟩, ⟨2, .chain⟩], guard := none }
def opsBa : List Oper := [oBa_0, oBa_1, oBa_2, oBa_3]
def sBa : List Nat := [32, 33, 34, 35]
def spBa (V Z A : Nat) : List Spec := [szQ Z, spV (.int .u32 (A : Nat)), szQ (sampleZ A).natAbs, spV (.bool (decide (Z ≤ (sampleZ A).natAbs)))]
structure EnvBa (a0 : Act) (w : World) (V Z A : Nat) : Prop where
  h7 : a0.tmps[7]? = some (ptrV V)
  h1 : a0.tmps[1]? = some (.int .u32 (A : Nat))
  zb : ZB w V Z
  lA : A < 4294967296
  fA : rung32 A < 2139095040
def skBa (i : Nat) : Bool := [].contains i
theorem yBa_0 {a0 : Act} {w : World} {V Z A : Nat} (E : EnvBa a0 w V Z A) {R : Exit → Act → World → Prop} {a : Act} {x : World} (q : Q w x) (oth : ∀ j, j ∉ sBa → a.tmps[j]? = a0.tmps[j]?) (dep : ∀ ed ∈ oBa_0.after, Region.binds .any ed = true → ∀ t', sBa[ed.on]? = some t' → ∃ v, a.tmps[t']? = some v ∧ specAt (spBa V Z A) ed.on v x) : Yld Try.prog R oBa_0 a x 32 (specAt (spBa V Z A) 0) := by
  obtain ⟨k, s, p, L, C, e, m, b1, b2⟩ := E.zb.next q
  exact yld_run (x' := x) rfl (run_num (tmp_eval ((oth 7 (by decide)).trans E.h7)) b1) (Q.refl x) b2
theorem yBa_1 {a0 : Act} {w : World} {V Z A : Nat} (E : EnvBa a0 w V Z A) {R : Exit → Act → World → Prop} {a : Act} {x : World} (q : Q w x) (oth : ∀ j, j ∉ sBa → a.tmps[j]? = a0.tmps[j]?) (dep : ∀ ed ∈ oBa_1.after, Region.binds .any ed = true → ∀ t', sBa[ed.on]? = some t' → ∃ v, a.tmps[t']? = some v ∧ specAt (spBa V Z A) ed.on v x) : Yld Try.prog R oBa_1 a x 33 (specAt (spBa V Z A) 1) := by
  exact yld_move ((oth 1 (by decide)).trans E.h1) rfl
theorem yBa_2 {a0 : Act} {w : World} {V Z A : Nat} (E : EnvBa a0 w V Z A) {R : Exit → Act → World → Prop} {a : Act} {x : World} (q : Q w x) (oth : ∀ j, j ∉ sBa → a.tmps[j]? = a0.tmps[j]?) (dep : ∀ ed ∈ oBa_2.after, Region.binds .any ed = true → ∀ t', sBa[ed.on]? = some t' → ∃ v, a.tmps[t']? = some v ∧ specAt (spBa V Z A) ed.on v x) : Yld Try.prog R oBa_2 a x 34 (specAt (spBa V Z A) 2) := by
  obtain ⟨v1, t1, f1⟩ := dep ⟨1, .data⟩ (by simp [oBa_2]) rfl 33 rfl
  have f1 : v1 = (.int .u32 (A : Nat)) := f1
  subst f1
  refine yld_call (enters_of Try.func25 (by kernel_rfl) rfl) (args1 t1) ((size_any A E.lA E.fA x).mono ?_)
  rintro u x' ⟨v, rfl, h, q'⟩
  exact ⟨v, rfl, q', h⟩
theorem yBa_3 {a0 : Act} {w : World} {V Z A : Nat} (E : EnvBa a0 w V Z A) {R : Exit → Act → World → Prop} {a : Act} {x : World} (q : Q w x) (oth : ∀ j, j ∉ sBa → a.tmps[j]? = a0.tmps[j]?) (dep : ∀ ed ∈ oBa_3.after, Region.binds .any ed = true → ∀ t', sBa[ed.on]? = some t' → ∃ v, a.tmps[t']? = some v ∧ specAt (spBa V Z A) ed.on v x) : Yld Try.prog R oBa_3 a x 35 (specAt (spBa V Z A) 3) := by
  obtain ⟨v0, t0, f0⟩ := dep ⟨0, .data⟩ (by simp [oBa_3]) rfl 32 rfl
  have f0 : (szQ Z).p v0 x := f0
  obtain ⟨v2, t2, f2⟩ := dep ⟨2, .data⟩ (by simp [oBa_3]) rfl 34 rfl
  have f2 : (szQ (sampleZ A).natAbs).p v2 x := f2
  refine yld_call (enters_of Try.func26 (by kernel_rfl) rfl) (args2 t0 t2) ((within_sz f0 f2).mono ?_)
  rintro u x' ⟨rfl, q'⟩
  exact ⟨_, rfl, q', rfl⟩
theorem hopBa {a0 : Act} {w : World} {V Z A : Nat} (E : EnvBa a0 w V Z A) {R : Exit → Act → World → Prop} : ∀ (i t : Nat) (o : Oper) (a : Act) (x : World), skBa i = false → sBa[i]? = some t → opsBa[i]? = some o → Q w x → (∀ j, j ∉ sBa → a.tmps[j]? = a0.tmps[j]?) → (∀ ed ∈ o.after, Region.binds .any ed = true → ∀ t', sBa[ed.on]? = some t' → ∃ v, a.tmps[t']? = some v ∧ specAt (spBa V Z A) ed.on v x) → Yld Try.prog R o a x t (specAt (spBa V Z A) i)
  | 0, t, o, a, x, hi, ht, ho, q, oth, dep => by
    have e1 : oBa_0 = o := Option.some.inj ho
    have e2 : 32 = t := Option.some.inj ht
    subst e1 e2
    exact yBa_0 E q oth dep
  | 1, t, o, a, x, hi, ht, ho, q, oth, dep => by
    have e1 : oBa_1 = o := Option.some.inj ho
    have e2 : 33 = t := Option.some.inj ht
    subst e1 e2
    exact yBa_1 E q oth dep
  | 2, t, o, a, x, hi, ht, ho, q, oth, dep => by
    have e1 : oBa_2 = o := Option.some.inj ho
    have e2 : 34 = t := Option.some.inj ht
    subst e1 e2
    exact yBa_2 E q oth dep
  | 3, t, o, a, x, hi, ht, ho, q, oth, dep => by
    have e1 : oBa_3 = o := Option.some.inj ho
    have e2 : 35 = t := Option.some.inj ht
    subst e1 e2
    exact yBa_3 E q oth dep
  | i + 4, t, o, a, x, hi, ht, ho, q, oth, dep => by cases ho
theorem keyBa : ∀ i, i < 4 → ((opsBa[i]?).bind (fun o : Oper => o.guard) = none ∧ skBa i = false) := by decide +kernel
theorem hguBa {V Z A : Nat} : ∀ (i : Nat) (o : Oper) (g : Nat) (b : Bool), opsBa[i]? = some o → o.guard = some (g, b) → ∀ v x, specAt (spBa V Z A) g v x → (v = .bool b ↔ skBa i = false) := by
  intro i o g b ho hg v x hf
  have h := keyBa i (List.getElem?_eq_some_iff.1 ho).1
  rw [ho] at h
  simp only [Option.bind_some] at h
  rw [hg] at h
  rcases h with ⟨h, _⟩
  · cases h
theorem hgnBa : ∀ (i : Nat) (o : Oper), opsBa[i]? = some o → o.guard = none → skBa i = false := by
  intro i o ho hg
  have h := keyBa i (List.getElem?_eq_some_iff.1 ho).1
  rw [ho] at h
  simp only [Option.bind_some] at h
  rw [hg] at h
  rcases h with ⟨_, h⟩
  · exact h
theorem hskBa {V Z A : Nat} : ∀ (i : Nat) (x : World), skBa i = true → specAt (spBa V Z A) i undef x := by
  intro i x h
  cases h
theorem regionBa {id : Nat} {l : List Oper} {R : Exit → Act → World → Prop} {a0 : Act} {w : World} {V Z A : Nat} (hl : l = opsBa) (hsz : a0.tmps.size = 155) (E : EnvBa a0 w V Z A)
    (hR : ∀ x v0 v2, Q w x → R .normal (putAll a0 [(32, v0), (33, (.int .u32 (A : Nat))), (34, v2), (35, (.bool (decide (Z ≤ (sampleZ A).natAbs))))]) x) :
    (Code.region id l.toArray true).wp Try.prog R a0 w := by
  subst hl
  refine wp_region_factsS sBa (specAt (spBa V Z A)) skBa (by kernel_rfl) (by decide +kernel) (by decide) (fun t ht => ?_) specAt.next hguBa hgnBa hskBa (hopBa E) (fun a x q size defers other facts => ?_)
  · rw [hsz]
    revert t
    decide
  · obtain ⟨v0, t0, f0⟩ := facts 0 32 rfl
    obtain ⟨v1, t1, f1⟩ := facts 1 33 rfl
    have f1 : v1 = (.int .u32 (A : Nat)) := f1
    subst f1
    obtain ⟨v2, t2, f2⟩ := facts 2 34 rfl
    obtain ⟨v3, t3, f3⟩ := facts 3 35 rfl
    have f3 : v3 = (.bool (decide (Z ≤ (sampleZ A).natAbs))) := f3
    subst f3
    have hA := act_puts (a := a) (a0 := a0) [(32, v0), (33, (.int .u32 (A : Nat))), (34, v2), (35, (.bool (decide (Z ≤ (sampleZ A).natAbs))))] (by show [32, 33, 34, 35].Nodup; decide) size defers (fun j hj => other j (fun hk => hj hk)) (fun r hr => by
      simp only [List.mem_cons, List.not_mem_nil, or_false] at hr
      rcases hr with rfl | rfl | rfl | rfl
      · exact t0
      · exact t1
      · exact t2
      · exact t3)
    rw [hA]
    exact ⟨hR x v0 v2 q⟩
def oBb_0 : Oper := { dst := some 38, op := .load 38 (.tmp 7), type := 38, pos := "outright.go:72", after := #[], guard := none }
def oBb_1 : Oper := { dst := some 39, op := .move (.tmp 2), type := 23, pos := "outright.go:72", after := #[], guard := none }
def oBb_2 : Oper := { dst := some 40, op := .call { callee := .value (.func 25), args := #[.tmp 39], argTypes := #[23] }, type := 38, pos := "outright.go:72", after := #[⟨1, .data⟩], guard := none }
def oBb_3 : Oper := { dst := some 41, op := .call { callee := .value (.func 26), args := #[.tmp 38, .tmp 40], argTypes := #[38, 38] }, type := 4, pos := "outright.go:72", after := #[⟨0, .data⟩, ⟨2, .data⟩, ⟨2, .chain⟩], guard := none }
def opsBb : List Oper := [oBb_0, oBb_1, oBb_2, oBb_3]
def sBb : List Nat := [38, 39, 40, 41]
def spBb (V Z A : Nat) : List Spec := [szQ Z, spV (.int .u32 (A : Nat)), szQ (sampleZ A).natAbs, spV (.bool (decide (Z ≤ (sampleZ A).natAbs)))]
structure EnvBb (a0 : Act) (w : World) (V Z A : Nat) : Prop where
  h7 : a0.tmps[7]? = some (ptrV V)
  h2 : a0.tmps[2]? = some (.int .u32 (A : Nat))
  zb : ZB w V Z
  lA : A < 4294967296
  fA : rung32 A < 2139095040
def skBb (i : Nat) : Bool := [].contains i
theorem yBb_0 {a0 : Act} {w : World} {V Z A : Nat} (E : EnvBb a0 w V Z A) {R : Exit → Act → World → Prop} {a : Act} {x : World} (q : Q w x) (oth : ∀ j, j ∉ sBb → a.tmps[j]? = a0.tmps[j]?) (dep : ∀ ed ∈ oBb_0.after, Region.binds .any ed = true → ∀ t', sBb[ed.on]? = some t' → ∃ v, a.tmps[t']? = some v ∧ specAt (spBb V Z A) ed.on v x) : Yld Try.prog R oBb_0 a x 38 (specAt (spBb V Z A) 0) := by
  obtain ⟨k, s, p, L, C, e, m, b1, b2⟩ := E.zb.next q
  exact yld_run (x' := x) rfl (run_num (tmp_eval ((oth 7 (by decide)).trans E.h7)) b1) (Q.refl x) b2
theorem yBb_1 {a0 : Act} {w : World} {V Z A : Nat} (E : EnvBb a0 w V Z A) {R : Exit → Act → World → Prop} {a : Act} {x : World} (q : Q w x) (oth : ∀ j, j ∉ sBb → a.tmps[j]? = a0.tmps[j]?) (dep : ∀ ed ∈ oBb_1.after, Region.binds .any ed = true → ∀ t', sBb[ed.on]? = some t' → ∃ v, a.tmps[t']? = some v ∧ specAt (spBb V Z A) ed.on v x) : Yld Try.prog R oBb_1 a x 39 (specAt (spBb V Z A) 1) := by
  exact yld_move ((oth 2 (by decide)).trans E.h2) rfl
theorem yBb_2 {a0 : Act} {w : World} {V Z A : Nat} (E : EnvBb a0 w V Z A) {R : Exit → Act → World → Prop} {a : Act} {x : World} (q : Q w x) (oth : ∀ j, j ∉ sBb → a.tmps[j]? = a0.tmps[j]?) (dep : ∀ ed ∈ oBb_2.after, Region.binds .any ed = true → ∀ t', sBb[ed.on]? = some t' → ∃ v, a.tmps[t']? = some v ∧ specAt (spBb V Z A) ed.on v x) : Yld Try.prog R oBb_2 a x 40 (specAt (spBb V Z A) 2) := by
  obtain ⟨v1, t1, f1⟩ := dep ⟨1, .data⟩ (by simp [oBb_2]) rfl 39 rfl
  have f1 : v1 = (.int .u32 (A : Nat)) := f1
  subst f1
  refine yld_call (enters_of Try.func25 (by kernel_rfl) rfl) (args1 t1) ((size_any A E.lA E.fA x).mono ?_)
  rintro u x' ⟨v, rfl, h, q'⟩
  exact ⟨v, rfl, q', h⟩
theorem yBb_3 {a0 : Act} {w : World} {V Z A : Nat} (E : EnvBb a0 w V Z A) {R : Exit → Act → World → Prop} {a : Act} {x : World} (q : Q w x) (oth : ∀ j, j ∉ sBb → a.tmps[j]? = a0.tmps[j]?) (dep : ∀ ed ∈ oBb_3.after, Region.binds .any ed = true → ∀ t', sBb[ed.on]? = some t' → ∃ v, a.tmps[t']? = some v ∧ specAt (spBb V Z A) ed.on v x) : Yld Try.prog R oBb_3 a x 41 (specAt (spBb V Z A) 3) := by
  obtain ⟨v0, t0, f0⟩ := dep ⟨0, .data⟩ (by simp [oBb_3]) rfl 38 rfl
  have f0 : (szQ Z).p v0 x := f0
  obtain ⟨v2, t2, f2⟩ := dep ⟨2, .data⟩ (by simp [oBb_3]) rfl 40 rfl
  have f2 : (szQ (sampleZ A).natAbs).p v2 x := f2
  refine yld_call (enters_of Try.func26 (by kernel_rfl) rfl) (args2 t0 t2) ((within_sz f0 f2).mono ?_)
  rintro u x' ⟨rfl, q'⟩
  exact ⟨_, rfl, q', rfl⟩
theorem hopBb {a0 : Act} {w : World} {V Z A : Nat} (E : EnvBb a0 w V Z A) {R : Exit → Act → World → Prop} : ∀ (i t : Nat) (o : Oper) (a : Act) (x : World), skBb i = false → sBb[i]? = some t → opsBb[i]? = some o → Q w x → (∀ j, j ∉ sBb → a.tmps[j]? = a0.tmps[j]?) → (∀ ed ∈ o.after, Region.binds .any ed = true → ∀ t', sBb[ed.on]? = some t' → ∃ v, a.tmps[t']? = some v ∧ specAt (spBb V Z A) ed.on v x) → Yld Try.prog R o a x t (specAt (spBb V Z A) i)
  | 0, t, o, a, x, hi, ht, ho, q, oth, dep => by
    have e1 : oBb_0 = o := Option.some.inj ho
    have e2 : 38 = t := Option.some.inj ht
    subst e1 e2
    exact yBb_0 E q oth dep
  | 1, t, o, a, x, hi, ht, ho, q, oth, dep => by
    have e1 : oBb_1 = o := Option.some.inj ho
    have e2 : 39 = t := Option.some.inj ht
    subst e1 e2
    exact yBb_1 E q oth dep
  | 2, t, o, a, x, hi, ht, ho, q, oth, dep => by
    have e1 : oBb_2 = o := Option.some.inj ho
    have e2 : 40 = t := Option.some.inj ht
    subst e1 e2
    exact yBb_2 E q oth dep
  | 3, t, o, a, x, hi, ht, ho, q, oth, dep => by
    have e1 : oBb_3 = o := Option.some.inj ho
    have e2 : 41 = t := Option.some.inj ht
    subst e1 e2
    exact yBb_3 E q oth dep
  | i + 4, t, o, a, x, hi, ht, ho, q, oth, dep => by cases ho
theorem keyBb : ∀ i, i < 4 → ((opsBb[i]?).bind (fun o : Oper => o.guard) = none ∧ skBb i = false) := by decide +kernel
theorem hguBb {V Z A : Nat} : ∀ (i : Nat) (o : Oper) (g : Nat) (b : Bool), opsBb[i]? = some o → o.guard = some (g, b) → ∀ v x, specAt (spBb V Z A) g v x → (v = .bool b ↔ skBb i = false) := by
  intro i o g b ho hg v x hf
  have h := keyBb i (List.getElem?_eq_some_iff.1 ho).1
  rw [ho] at h
  simp only [Option.bind_some] at h
  rw [hg] at h
  rcases h with ⟨h, _⟩
  · cases h
theorem hgnBb : ∀ (i : Nat) (o : Oper), opsBb[i]? = some o → o.guard = none → skBb i = false := by
  intro i o ho hg
  have h := keyBb i (List.getElem?_eq_some_iff.1 ho).1
  rw [ho] at h
  simp only [Option.bind_some] at h
  rw [hg] at h
  rcases h with ⟨_, h⟩
  · exact h
theorem hskBb {V Z A : Nat} : ∀ (i : Nat) (x : World), skBb i = true → specAt (spBb V Z A) i undef x := by
  intro i x h
  cases h
theorem regionBb {id : Nat} {l : List Oper} {R : Exit → Act → World → Prop} {a0 : Act} {w : World} {V Z A : Nat} (hl : l = opsBb) (hsz : a0.tmps.size = 155) (E : EnvBb a0 w V Z A)
    (hR : ∀ x v0 v2, Q w x → R .normal (putAll a0 [(38, v0), (39, (.int .u32 (A : Nat))), (40, v2), (41, (.bool (decide (Z ≤ (sampleZ A).natAbs))))]) x) :
    (Code.region id l.toArray true).wp Try.prog R a0 w := by
  subst hl
  refine wp_region_factsS sBb (specAt (spBb V Z A)) skBb (by kernel_rfl) (by decide +kernel) (by decide) (fun t ht => ?_) specAt.next hguBb hgnBb hskBb (hopBb E) (fun a x q size defers other facts => ?_)
  · rw [hsz]
    revert t
    decide
  · obtain ⟨v0, t0, f0⟩ := facts 0 38 rfl
    obtain ⟨v1, t1, f1⟩ := facts 1 39 rfl
    have f1 : v1 = (.int .u32 (A : Nat)) := f1
    subst f1
    obtain ⟨v2, t2, f2⟩ := facts 2 40 rfl
    obtain ⟨v3, t3, f3⟩ := facts 3 41 rfl
    have f3 : v3 = (.bool (decide (Z ≤ (sampleZ A).natAbs))) := f3
    subst f3
    have hA := act_puts (a := a) (a0 := a0) [(38, v0), (39, (.int .u32 (A : Nat))), (40, v2), (41, (.bool (decide (Z ≤ (sampleZ A).natAbs))))] (by show [38, 39, 40, 41].Nodup; decide) size defers (fun j hj => other j (fun hk => hj hk)) (fun r hr => by
      simp only [List.mem_cons, List.not_mem_nil, or_false] at hr
      rcases hr with rfl | rfl | rfl | rfl
      · exact t0
      · exact t1
      · exact t2
      · exact t3)
    rw [hA]
    exact ⟨hR x v0 v2 q⟩
def oBc_0 : Oper := { dst := some 44, op := .load 38 (.tmp 7), type := 38, pos := "outright.go:75", after := #[], guard := none }
def oBc_1 : Oper := { dst := some 45, op := .call { callee := .value (.func 27), args := #[.const (.int .i64 100)], argTypes := #[3] }, type := 38, pos := "outright.go:75", after := #[], guard := none }
def oBc_2 : Oper := { dst := some 46, op := .call { callee := .value (.func 26), args := #[.tmp 44, .tmp 45], argTypes := #[38, 38] }, type := 4, pos := "outright.go:75", after := #[⟨0, .data⟩, ⟨1, .data⟩, ⟨1, .chain⟩], guard := none }
def oBc_3 : Oper := { dst := some 47, op := .unOp .not 4 (.tmp 46), type := 4, pos := "outright.go:75", after := #[⟨2, .data⟩], guard := none }
def opsBc : List Oper := [oBc_0, oBc_1, oBc_2, oBc_3]
def sBc : List Nat := [44, 45, 46, 47]
def spBc (V Z : Nat) : List Spec := [szQ Z, szQ (zm 1 100), spV (.bool (decide (Z ≤ zm 1 100))), spV (.bool (!decide (Z ≤ zm 1 100)))]
structure EnvBc (a0 : Act) (w : World) (V Z : Nat) : Prop where
  h7 : a0.tmps[7]? = some (ptrV V)
  zb : ZB w V Z
def skBc (i : Nat) : Bool := [].contains i
theorem yBc_0 {a0 : Act} {w : World} {V Z : Nat} (E : EnvBc a0 w V Z) {R : Exit → Act → World → Prop} {a : Act} {x : World} (q : Q w x) (oth : ∀ j, j ∉ sBc → a.tmps[j]? = a0.tmps[j]?) (dep : ∀ ed ∈ oBc_0.after, Region.binds .any ed = true → ∀ t', sBc[ed.on]? = some t' → ∃ v, a.tmps[t']? = some v ∧ specAt (spBc V Z) ed.on v x) : Yld Try.prog R oBc_0 a x 44 (specAt (spBc V Z) 0) := by
  obtain ⟨k, s, p, L, C, e, m, b1, b2⟩ := E.zb.next q
  exact yld_run (x' := x) rfl (run_num (tmp_eval ((oth 7 (by decide)).trans E.h7)) b1) (Q.refl x) b2
theorem yBc_1 {a0 : Act} {w : World} {V Z : Nat} (E : EnvBc a0 w V Z) {R : Exit → Act → World → Prop} {a : Act} {x : World} (q : Q w x) (oth : ∀ j, j ∉ sBc → a.tmps[j]? = a0.tmps[j]?) (dep : ∀ ed ∈ oBc_1.after, Region.binds .any ed = true → ∀ t', sBc[ed.on]? = some t' → ∃ v, a.tmps[t']? = some v ∧ specAt (spBc V Z) ed.on v x) : Yld Try.prog R oBc_1 a x 45 (specAt (spBc V Z) 1) := by
  refine yld_call (enters_of Try.func27 (by kernel_rfl) rfl) argsC ((power_any 100 (by decide) (by decide) x).mono ?_)
  rintro u x' ⟨v, rfl, h, q'⟩
  exact ⟨v, rfl, q', h⟩
theorem yBc_2 {a0 : Act} {w : World} {V Z : Nat} (E : EnvBc a0 w V Z) {R : Exit → Act → World → Prop} {a : Act} {x : World} (q : Q w x) (oth : ∀ j, j ∉ sBc → a.tmps[j]? = a0.tmps[j]?) (dep : ∀ ed ∈ oBc_2.after, Region.binds .any ed = true → ∀ t', sBc[ed.on]? = some t' → ∃ v, a.tmps[t']? = some v ∧ specAt (spBc V Z) ed.on v x) : Yld Try.prog R oBc_2 a x 46 (specAt (spBc V Z) 2) := by
  obtain ⟨v0, t0, f0⟩ := dep ⟨0, .data⟩ (by simp [oBc_2]) rfl 44 rfl
  have f0 : (szQ Z).p v0 x := f0
  obtain ⟨v1, t1, f1⟩ := dep ⟨1, .data⟩ (by simp [oBc_2]) rfl 45 rfl
  have f1 : (szQ (zm 1 100)).p v1 x := f1
  refine yld_call (enters_of Try.func26 (by kernel_rfl) rfl) (args2 t0 t1) ((within_sz f0 f1).mono ?_)
  rintro u x' ⟨rfl, q'⟩
  exact ⟨_, rfl, q', rfl⟩
theorem yBc_3 {a0 : Act} {w : World} {V Z : Nat} (E : EnvBc a0 w V Z) {R : Exit → Act → World → Prop} {a : Act} {x : World} (q : Q w x) (oth : ∀ j, j ∉ sBc → a.tmps[j]? = a0.tmps[j]?) (dep : ∀ ed ∈ oBc_3.after, Region.binds .any ed = true → ∀ t', sBc[ed.on]? = some t' → ∃ v, a.tmps[t']? = some v ∧ specAt (spBc V Z) ed.on v x) : Yld Try.prog R oBc_3 a x 47 (specAt (spBc V Z) 3) := by
  obtain ⟨v2, t2, f2⟩ := dep ⟨2, .data⟩ (by simp [oBc_3]) rfl 46 rfl
  have f2 : v2 = (.bool (decide (Z ≤ zm 1 100))) := f2
  subst f2
  exact yld_run (x' := x) rfl (run_notb (tmp_eval t2)) (Q.refl x) rfl
theorem hopBc {a0 : Act} {w : World} {V Z : Nat} (E : EnvBc a0 w V Z) {R : Exit → Act → World → Prop} : ∀ (i t : Nat) (o : Oper) (a : Act) (x : World), skBc i = false → sBc[i]? = some t → opsBc[i]? = some o → Q w x → (∀ j, j ∉ sBc → a.tmps[j]? = a0.tmps[j]?) → (∀ ed ∈ o.after, Region.binds .any ed = true → ∀ t', sBc[ed.on]? = some t' → ∃ v, a.tmps[t']? = some v ∧ specAt (spBc V Z) ed.on v x) → Yld Try.prog R o a x t (specAt (spBc V Z) i)
  | 0, t, o, a, x, hi, ht, ho, q, oth, dep => by
    have e1 : oBc_0 = o := Option.some.inj ho
    have e2 : 44 = t := Option.some.inj ht
    subst e1 e2
    exact yBc_0 E q oth dep
  | 1, t, o, a, x, hi, ht, ho, q, oth, dep => by
    have e1 : oBc_1 = o := Option.some.inj ho
    have e2 : 45 = t := Option.some.inj ht
    subst e1 e2
    exact yBc_1 E q oth dep
  | 2, t, o, a, x, hi, ht, ho, q, oth, dep => by
    have e1 : oBc_2 = o := Option.some.inj ho
    have e2 : 46 = t := Option.some.inj ht
    subst e1 e2
    exact yBc_2 E q oth dep
  | 3, t, o, a, x, hi, ht, ho, q, oth, dep => by
    have e1 : oBc_3 = o := Option.some.inj ho
    have e2 : 47 = t := Option.some.inj ht
    subst e1 e2
    exact yBc_3 E q oth dep
  | i + 4, t, o, a, x, hi, ht, ho, q, oth, dep => by cases ho
theorem keyBc : ∀ i, i < 4 → ((opsBc[i]?).bind (fun o : Oper => o.guard) = none ∧ skBc i = false) := by decide +kernel
theorem hguBc {V Z : Nat} : ∀ (i : Nat) (o : Oper) (g : Nat) (b : Bool), opsBc[i]? = some o → o.guard = some (g, b) → ∀ v x, specAt (spBc V Z) g v x → (v = .bool b ↔ skBc i = false) := by
  intro i o g b ho hg v x hf
  have h := keyBc i (List.getElem?_eq_some_iff.1 ho).1
  rw [ho] at h
  simp only [Option.bind_some] at h
  rw [hg] at h
  rcases h with ⟨h, _⟩
  · cases h
theorem hgnBc : ∀ (i : Nat) (o : Oper), opsBc[i]? = some o → o.guard = none → skBc i = false := by
  intro i o ho hg
  have h := keyBc i (List.getElem?_eq_some_iff.1 ho).1
  rw [ho] at h
  simp only [Option.bind_some] at h
  rw [hg] at h
  rcases h with ⟨_, h⟩
  · exact h
theorem hskBc {V Z : Nat} : ∀ (i : Nat) (x : World), skBc i = true → specAt (spBc V Z) i undef x := by
  intro i x h
  cases h
theorem regionBc {id : Nat} {l : List Oper} {R : Exit → Act → World → Prop} {a0 : Act} {w : World} {V Z : Nat} (hl : l = opsBc) (hsz : a0.tmps.size = 155) (E : EnvBc a0 w V Z)
    (hR : ∀ x v0 v1, Q w x → R .normal (putAll a0 [(44, v0), (45, v1), (46, (.bool (decide (Z ≤ zm 1 100)))), (47, (.bool (!decide (Z ≤ zm 1 100))))]) x) :
    (Code.region id l.toArray true).wp Try.prog R a0 w := by
  subst hl
  refine wp_region_factsS sBc (specAt (spBc V Z)) skBc (by kernel_rfl) (by decide +kernel) (by decide) (fun t ht => ?_) specAt.next hguBc hgnBc hskBc (hopBc E) (fun a x q size defers other facts => ?_)
  · rw [hsz]
    revert t
    decide
  · obtain ⟨v0, t0, f0⟩ := facts 0 44 rfl
    obtain ⟨v1, t1, f1⟩ := facts 1 45 rfl
    obtain ⟨v2, t2, f2⟩ := facts 2 46 rfl
    have f2 : v2 = (.bool (decide (Z ≤ zm 1 100))) := f2
    subst f2
    obtain ⟨v3, t3, f3⟩ := facts 3 47 rfl
    have f3 : v3 = (.bool (!decide (Z ≤ zm 1 100))) := f3
    subst f3
    have hA := act_puts (a := a) (a0 := a0) [(44, v0), (45, v1), (46, (.bool (decide (Z ≤ zm 1 100)))), (47, (.bool (!decide (Z ≤ zm 1 100))))] (by show [44, 45, 46, 47].Nodup; decide) size defers (fun j hj => other j (fun hk => hj hk)) (fun r hr => by
      simp only [List.mem_cons, List.not_mem_nil, or_false] at hr
      rcases hr with rfl | rfl | rfl | rfl
      · exact t0
      · exact t1
      · exact t2
      · exact t3)
    rw [hA]
    exact ⟨hR x v0 v1 q⟩
def oBd_0 : Oper := { dst := some 76, op := .move (.tmp 12), type := 23, pos := "outright.go:83", after := #[], guard := none }
def oBd_1 : Oper := { dst := some 77, op := .call { callee := .value (.func 24), args := #[.tmp 76], argTypes := #[23] }, type := 4, pos := "outright.go:83", after := #[⟨0, .data⟩], guard := none }
def oBd_2 : Oper := { dst := some 78, op := .unOp .not 4 (.tmp 77), type := 4, pos := "outright.go:83", after := #[⟨1, .data⟩], guard := none }
def oBd_3 : Oper := { dst := some 79, op := .move (.tmp 78), type := 4, pos := "outright.go:83", after := #[⟨2, .data⟩, ⟨1, .chain⟩], guard := none }
def oBd_4 : Oper := { dst := some 80, op := .move (.tmp 13), type := 23, pos := "outright.go:83", after := #[⟨3, .guard⟩], guard := some (3, false) }
def oBd_5 : Oper := { dst := some 81, op := .call { callee := .value (.func 24), args := #[.tmp 80], argTypes := #[23] }, type := 4, pos := "outright.go:83", after := #[⟨4, .data⟩, ⟨3, .chain⟩, ⟨3, .guard⟩], guard := some (3, false) }
def oBd_6 : Oper := { dst := some 82, op := .unOp .not 4 (.tmp 81), type := 4, pos := "outright.go:83", after := #[⟨5, .data⟩, ⟨3, .guard⟩], guard := some (3, false) }
def oBd_7 : Oper := { dst := some 83, op := .pick (.tmp 79) (.const (.bool true)) (.tmp 82), type := 4, pos := "outright.go:83", after := #[⟨3, .data⟩, ⟨6, .data⟩], guard := none }
def oBd_8 : Oper := { dst := some 84, op := .move (.tmp 83), type := 4, pos := "outright.go:83", after := #[⟨7, .data⟩, ⟨5, .chain⟩], guard := none }
def oBd_9 : Oper := { dst := some 85, op := .move (.tmp 14), type := 23, pos := "outright.go:83", after := #[⟨8, .guard⟩], guard := some (8, false) }
def oBd_10 : Oper := { dst := some 86, op := .call { callee := .value (.func 24), args := #[.tmp 85], argTypes := #[23] }, type := 4, pos := "outright.go:83", after := #[⟨9, .data⟩, ⟨8, .chain⟩, ⟨8, .guard⟩], guard := some (8, false) }
def oBd_11 : Oper := { dst := some 87, op := .unOp .not 4 (.tmp 86), type := 4, pos := "outright.go:83", after := #[⟨10, .data⟩, ⟨8, .guard⟩], guard := some (8, false) }
def oBd_12 : Oper := { dst := some 88, op := .pick (.tmp 84) (.const (.bool true)) (.tmp 87), type := 4, pos := "outright.go:83", after := #[⟨8, .data⟩, ⟨11, .data⟩], guard := none }
def oBd_13 : Oper := { dst := some 89, op := .move (.tmp 88), type := 4, pos := "outright.go:83", after := #[⟨12, .data⟩, ⟨10, .chain⟩], guard := none }
def oBd_14 : Oper := { dst := some 90, op := .move (.tmp 0), type := 23, pos := "outright.go:83", after := #[⟨13, .guard⟩], guard := some (13, false) }
def oBd_15 : Oper := { dst := some 91, op := .move (.tmp 12), type := 23, pos := "outright.go:83", after := #[⟨13, .guard⟩], guard := some (13, false) }
def oBd_16 : Oper := { dst := some 92, op := .call { callee := .value (.func 30), args := #[.tmp 90, .tmp 91], argTypes := #[23, 23] }, type := 38, pos := "outright.go:83", after := #[⟨14, .data⟩, ⟨15, .data⟩, ⟨13, .chain⟩, ⟨13, .guard⟩], guard := some (13, false) }
def oBd_17 : Oper := { dst := some 93, op := .load 38 (.tmp 8), type := 38, pos := "outright.go:83", after := #[⟨13, .guard⟩], guard := some (13, false) }
def oBd_18 : Oper := { dst := some 94, op := .call { callee := .value (.func 26), args := #[.tmp 92, .tmp 93], argTypes := #[38, 38] }, type := 4, pos := "outright.go:83", after := #[⟨16, .data⟩, ⟨17, .data⟩, ⟨16, .chain⟩, ⟨13, .guard⟩], guard := some (13, false) }
def oBd_19 : Oper := { dst := some 95, op := .unOp .not 4 (.tmp 94), type := 4, pos := "outright.go:83", after := #[⟨18, .data⟩, ⟨13, .guard⟩], guard := some (13, false) }
def oBd_20 : Oper := { dst := some 96, op := .pick (.tmp 89) (.const (.bool true)) (.tmp 95), type := 4, pos := "outright.go:83", after := #[⟨13, .data⟩, ⟨19, .data⟩], guard := none }
def oBd_21 : Oper := { dst := some 97, op := .move (.tmp 96), type := 4, pos := "outright.go:83", after := #[⟨20, .data⟩, ⟨18, .chain⟩], guard := none }
def oBd_22 : Oper := { dst := some 98, op := .move (.tmp 1), type := 23, pos := "outright.go:83", after := #[⟨21, .guard⟩], guard := some (21, false) }
def oBd_23 : Oper := { dst := some 99, op := .move (.tmp 13), type := 23, pos := "outright.go:83", after := #[⟨21, .guard⟩], guard := some (21, false) }
def oBd_24 : Oper := { dst := some 100, op := .call { callee := .value (.func 30), args := #[.tmp 98, .tmp 99], argTypes := #[23, 23] }, type := 38, pos := "outright.go:83", after := #[⟨22, .data⟩, ⟨23, .data⟩, ⟨21, .chain⟩, ⟨21, .guard⟩], guard := some (21, false) }
def oBd_25 : Oper := { dst := some 101, op := .load 38 (.tmp 8), type := 38, pos := "outright.go:83", after := #[⟨21, .guard⟩], guard := some (21, false) }
def oBd_26 : Oper := { dst := some 102, op := .call { callee := .value (.func 26), args := #[.tmp 100, .tmp 101], argTypes := #[38, 38] }, type := 4, pos := "outright.go:83", after := #[⟨24, .data⟩, ⟨25, .data⟩, ⟨24, .chain⟩, ⟨21, .guard⟩], guard := some (21, false) }
def oBd_27 : Oper := { dst := some 103, op := .unOp .not 4 (.tmp 102), type := 4, pos := "outright.go:83", after := #[⟨26, .data⟩, ⟨21, .guard⟩], guard := some (21, false) }
def oBd_28 : Oper := { dst := some 104, op := .pick (.tmp 97) (.const (.bool true)) (.tmp 103), type := 4, pos := "outright.go:83", after := #[⟨21, .data⟩, ⟨27, .data⟩], guard := none }
def oBd_29 : Oper := { dst := some 105, op := .move (.tmp 104), type := 4, pos := "outright.go:83", after := #[⟨28, .data⟩, ⟨26, .chain⟩], guard := none }
def oBd_30 : Oper := { dst := some 106, op := .move (.tmp 2), type := 23, pos := "outright.go:83", after := #[⟨29, .guard⟩], guard := some (29, false) }
def oBd_31 : Oper := { dst := some 107, op := .move (.tmp 14), type := 23, pos := "outright.go:83", after := #[⟨29, .guard⟩], guard := some (29, false) }
def oBd_32 : Oper := { dst := some 108, op := .call { callee := .value (.func 30), args := #[.tmp 106, .tmp 107], argTypes := #[23, 23] }, type := 38, pos := "outright.go:83", after := #[⟨30, .data⟩, ⟨31, .data⟩, ⟨29, .chain⟩, ⟨29, .guard⟩], guard := some (29, false) }
def oBd_33 : Oper := { dst := some 109, op := .load 38 (.tmp 8), type := 38, pos := "outright.go:83", after := #[⟨29, .guard⟩], guard := some (29, false) }
def oBd_34 : Oper := { dst := some 110, op := .call { callee := .value (.func 26), args := #[.tmp 108, .tmp 109], argTypes := #[38, 38] }, type := 4, pos := "outright.go:83", after := #[⟨32, .data⟩, ⟨33, .data⟩, ⟨32, .chain⟩, ⟨29, .guard⟩], guard := some (29, false) }
def oBd_35 : Oper := { dst := some 111, op := .unOp .not 4 (.tmp 110), type := 4, pos := "outright.go:83", after := #[⟨34, .data⟩, ⟨29, .guard⟩], guard := some (29, false) }
def oBd_36 : Oper := { dst := some 112, op := .pick (.tmp 105) (.const (.bool true)) (.tmp 111), type := 4, pos := "outright.go:83", after := #[⟨29, .data⟩, ⟨35, .data⟩], guard := none }
def opsBd : List Oper := [oBd_0, oBd_1, oBd_2, oBd_3, oBd_4, oBd_5, oBd_6, oBd_7, oBd_8, oBd_9, oBd_10, oBd_11, oBd_12, oBd_13, oBd_14, oBd_15, oBd_16, oBd_17, oBd_18, oBd_19, oBd_20, oBd_21, oBd_22, oBd_23, oBd_24, oBd_25, oBd_26, oBd_27, oBd_28, oBd_29, oBd_30, oBd_31, oBd_32, oBd_33, oBd_34, oBd_35, oBd_36]
def sBd : List Nat := [76, 77, 78, 79, 80, 81, 82, 83, 84, 85, 86, 87, 88, 89, 90, 91, 92, 93, 94, 95, 96, 97, 98, 99, 100, 101, 102, 103, 104, 105, 106, 107, 108, 109, 110, 111, 112]
def spBd (VB BD X Y Z U V W : Nat) : List Spec := [spV (.int .u32 (U : Nat)), spV (.bool true), spV (.bool false), spV (.bool false), spV (.int .u32 (V : Nat)), spV (.bool true), spV (.bool false), spV (.bool false), spV (.bool false), spV (.int .u32 (W : Nat)), spV (.bool true), spV (.bool false), spV (.bool false), spV (.bool false), spV (.int .u32 (X : Nat)), spV (.int .u32 (U : Nat)), szQ (sampleZ X - sampleZ U).natAbs, szQ BD, spV (.bool true), spV (.bool false), spV (.bool false), spV (.bool false), spV (.int .u32 (Y : Nat)), spV (.int .u32 (V : Nat)), szQ (sampleZ Y - sampleZ V).natAbs, szQ BD, spV (.bool true), spV (.bool false), spV (.bool false), spV (.bool false), spV (.int .u32 (Z : Nat)), spV (.int .u32 (W : Nat)), szQ (sampleZ Z - sampleZ W).natAbs, szQ BD, spV (.bool true), spV (.bool false), spV (.bool false)]
structure EnvBd (a0 : Act) (w : World) (VB BD X Y Z U V W : Nat) : Prop where
  h8 : a0.tmps[8]? = some (ptrV VB)
  h0 : a0.tmps[0]? = some (.int .u32 (X : Nat))
  h1 : a0.tmps[1]? = some (.int .u32 (Y : Nat))
  h2 : a0.tmps[2]? = some (.int .u32 (Z : Nat))
  h12 : a0.tmps[12]? = some (.int .u32 (U : Nat))
  h13 : a0.tmps[13]? = some (.int .u32 (V : Nat))
  h14 : a0.tmps[14]? = some (.int .u32 (W : Nat))
  zb : ZB w VB BD
  lX : X < 4294967296
  lY : Y < 4294967296
  lZ : Z < 4294967296
  lU : U < 4294967296
  lV : V < 4294967296
  lW : W < 4294967296
  fX : rung32 X < 2139095040
  fY : rung32 Y < 2139095040
  fZ : rung32 Z < 2139095040
  fU : rung32 U < 2139095040
  fV : rung32 V < 2139095040
  fW : rung32 W < 2139095040
  o1 : (sampleZ X - sampleZ U).natAbs ≤ BD
  o2 : (sampleZ Y - sampleZ V).natAbs ≤ BD
  o3 : (sampleZ Z - sampleZ W).natAbs ≤ BD
def skBd (i : Nat) : Bool := [].contains i
theorem yBd_0 {a0 : Act} {w : World} {VB BD X Y Z U V W : Nat} (E : EnvBd a0 w VB BD X Y Z U V W) {R : Exit → Act → World → Prop} {a : Act} {x : World} (q : Q w x) (oth : ∀ j, j ∉ sBd → a.tmps[j]? = a0.tmps[j]?) (dep : ∀ ed ∈ oBd_0.after, Region.binds .any ed = true → ∀ t', sBd[ed.on]? = some t' → ∃ v, a.tmps[t']? = some v ∧ specAt (spBd VB BD X Y Z U V W) ed.on v x) : Yld Try.prog R oBd_0 a x 76 (specAt (spBd VB BD X Y Z U V W) 0) := by
  exact yld_move ((oth 12 (by decide)).trans E.h12) rfl
theorem yBd_1 {a0 : Act} {w : World} {VB BD X Y Z U V W : Nat} (E : EnvBd a0 w VB BD X Y Z U V W) {R : Exit → Act → World → Prop} {a : Act} {x : World} (q : Q w x) (oth : ∀ j, j ∉ sBd → a.tmps[j]? = a0.tmps[j]?) (dep : ∀ ed ∈ oBd_1.after, Region.binds .any ed = true → ∀ t', sBd[ed.on]? = some t' → ∃ v, a.tmps[t']? = some v ∧ specAt (spBd VB BD X Y Z U V W) ed.on v x) : Yld Try.prog R oBd_1 a x 77 (specAt (spBd VB BD X Y Z U V W) 1) := by
  obtain ⟨v0, t0, f0⟩ := dep ⟨0, .data⟩ (by simp [oBd_1]) rfl 76 rfl
  have f0 : v0 = (.int .u32 (U : Nat)) := f0
  subst f0
  have hc := fin7_any U E.lU x
  rw [decide_eq_true E.fU] at hc
  refine yld_call (enters_of Try.func24 (by kernel_rfl) rfl) (args1 t0) (hc.mono ?_)
  rintro u x' ⟨rfl, rfl⟩
  exact ⟨_, rfl, Q.refl _, rfl⟩
theorem yBd_2 {a0 : Act} {w : World} {VB BD X Y Z U V W : Nat} (E : EnvBd a0 w VB BD X Y Z U V W) {R : Exit → Act → World → Prop} {a : Act} {x : World} (q : Q w x) (oth : ∀ j, j ∉ sBd → a.tmps[j]? = a0.tmps[j]?) (dep : ∀ ed ∈ oBd_2.after, Region.binds .any ed = true → ∀ t', sBd[ed.on]? = some t' → ∃ v, a.tmps[t']? = some v ∧ specAt (spBd VB BD X Y Z U V W) ed.on v x) : Yld Try.prog R oBd_2 a x 78 (specAt (spBd VB BD X Y Z U V W) 2) := by
  obtain ⟨v1, t1, f1⟩ := dep ⟨1, .data⟩ (by simp [oBd_2]) rfl 77 rfl
  have f1 : v1 = (.bool true) := f1
  subst f1
  exact yld_run (x' := x) rfl (run_notb (tmp_eval t1)) (Q.refl x) rfl
theorem yBd_3 {a0 : Act} {w : World} {VB BD X Y Z U V W : Nat} (E : EnvBd a0 w VB BD X Y Z U V W) {R : Exit → Act → World → Prop} {a : Act} {x : World} (q : Q w x) (oth : ∀ j, j ∉ sBd → a.tmps[j]? = a0.tmps[j]?) (dep : ∀ ed ∈ oBd_3.after, Region.binds .any ed = true → ∀ t', sBd[ed.on]? = some t' → ∃ v, a.tmps[t']? = some v ∧ specAt (spBd VB BD X Y Z U V W) ed.on v x) : Yld Try.prog R oBd_3 a x 79 (specAt (spBd VB BD X Y Z U V W) 3) := by
  obtain ⟨v2, t2, f2⟩ := dep ⟨2, .data⟩ (by simp [oBd_3]) rfl 78 rfl
  have f2 : v2 = (.bool false) := f2
  subst f2
  exact yld_move t2 rfl
theorem yBd_4 {a0 : Act} {w : World} {VB BD X Y Z U V W : Nat} (E : EnvBd a0 w VB BD X Y Z U V W) {R : Exit → Act → World → Prop} {a : Act} {x : World} (q : Q w x) (oth : ∀ j, j ∉ sBd → a.tmps[j]? = a0.tmps[j]?) (dep : ∀ ed ∈ oBd_4.after, Region.binds .any ed = true → ∀ t', sBd[ed.on]? = some t' → ∃ v, a.tmps[t']? = some v ∧ specAt (spBd VB BD X Y Z U V W) ed.on v x) : Yld Try.prog R oBd_4 a x 80 (specAt (spBd VB BD X Y Z U V W) 4) := by
  exact yld_move ((oth 13 (by decide)).trans E.h13) rfl
theorem yBd_5 {a0 : Act} {w : World} {VB BD X Y Z U V W : Nat} (E : EnvBd a0 w VB BD X Y Z U V W) {R : Exit → Act → World → Prop} {a : Act} {x : World} (q : Q w x) (oth : ∀ j, j ∉ sBd → a.tmps[j]? = a0.tmps[j]?) (dep : ∀ ed ∈ oBd_5.after, Region.binds .any ed = true → ∀ t', sBd[ed.on]? = some t' → ∃ v, a.tmps[t']? = some v ∧ specAt (spBd VB BD X Y Z U V W) ed.on v x) : Yld Try.prog R oBd_5 a x 81 (specAt (spBd VB BD X Y Z U V W) 5) := by
  obtain ⟨v4, t4, f4⟩ := dep ⟨4, .data⟩ (by simp [oBd_5]) rfl 80 rfl
  have f4 : v4 = (.int .u32 (V : Nat)) := f4
  subst f4
  have hc := fin7_any V E.lV x
  rw [decide_eq_true E.fV] at hc
  refine yld_call (enters_of Try.func24 (by kernel_rfl) rfl) (args1 t4) (hc.mono ?_)
  rintro u x' ⟨rfl, rfl⟩
  exact ⟨_, rfl, Q.refl _, rfl⟩
theorem yBd_6 {a0 : Act} {w : World} {VB BD X Y Z U V W : Nat} (E : EnvBd a0 w VB BD X Y Z U V W) {R : Exit → Act → World → Prop} {a : Act} {x : World} (q : Q w x) (oth : ∀ j, j ∉ sBd → a.tmps[j]? = a0.tmps[j]?) (dep : ∀ ed ∈ oBd_6.after, Region.binds .any ed = true → ∀ t', sBd[ed.on]? = some t' → ∃ v, a.tmps[t']? = some v ∧ specAt (spBd VB BD X Y Z U V W) ed.on v x) : Yld Try.prog R oBd_6 a x 82 (specAt (spBd VB BD X Y Z U V W) 6) := by
  obtain ⟨v5, t5, f5⟩ := dep ⟨5, .data⟩ (by simp [oBd_6]) rfl 81 rfl
  have f5 : v5 = (.bool true) := f5
  subst f5
  exact yld_run (x' := x) rfl (run_notb (tmp_eval t5)) (Q.refl x) rfl
theorem yBd_7 {a0 : Act} {w : World} {VB BD X Y Z U V W : Nat} (E : EnvBd a0 w VB BD X Y Z U V W) {R : Exit → Act → World → Prop} {a : Act} {x : World} (q : Q w x) (oth : ∀ j, j ∉ sBd → a.tmps[j]? = a0.tmps[j]?) (dep : ∀ ed ∈ oBd_7.after, Region.binds .any ed = true → ∀ t', sBd[ed.on]? = some t' → ∃ v, a.tmps[t']? = some v ∧ specAt (spBd VB BD X Y Z U V W) ed.on v x) : Yld Try.prog R oBd_7 a x 83 (specAt (spBd VB BD X Y Z U V W) 7) := by
  obtain ⟨v3, t3, f3⟩ := dep ⟨3, .data⟩ (by simp [oBd_7]) rfl 79 rfl
  have f3 : v3 = (.bool false) := f3
  subst f3
  obtain ⟨v6, t6, f6⟩ := dep ⟨6, .data⟩ (by simp [oBd_7]) rfl 82 rfl
  have f6 : v6 = (.bool false) := f6
  subst f6
  exact yld_run (x' := x) rfl (run_orf (tmp_eval t3) (tmp_eval t6)) (Q.refl x) rfl
theorem yBd_8 {a0 : Act} {w : World} {VB BD X Y Z U V W : Nat} (E : EnvBd a0 w VB BD X Y Z U V W) {R : Exit → Act → World → Prop} {a : Act} {x : World} (q : Q w x) (oth : ∀ j, j ∉ sBd → a.tmps[j]? = a0.tmps[j]?) (dep : ∀ ed ∈ oBd_8.after, Region.binds .any ed = true → ∀ t', sBd[ed.on]? = some t' → ∃ v, a.tmps[t']? = some v ∧ specAt (spBd VB BD X Y Z U V W) ed.on v x) : Yld Try.prog R oBd_8 a x 84 (specAt (spBd VB BD X Y Z U V W) 8) := by
  obtain ⟨v7, t7, f7⟩ := dep ⟨7, .data⟩ (by simp [oBd_8]) rfl 83 rfl
  have f7 : v7 = (.bool false) := f7
  subst f7
  exact yld_move t7 rfl
theorem yBd_9 {a0 : Act} {w : World} {VB BD X Y Z U V W : Nat} (E : EnvBd a0 w VB BD X Y Z U V W) {R : Exit → Act → World → Prop} {a : Act} {x : World} (q : Q w x) (oth : ∀ j, j ∉ sBd → a.tmps[j]? = a0.tmps[j]?) (dep : ∀ ed ∈ oBd_9.after, Region.binds .any ed = true → ∀ t', sBd[ed.on]? = some t' → ∃ v, a.tmps[t']? = some v ∧ specAt (spBd VB BD X Y Z U V W) ed.on v x) : Yld Try.prog R oBd_9 a x 85 (specAt (spBd VB BD X Y Z U V W) 9) := by
  exact yld_move ((oth 14 (by decide)).trans E.h14) rfl
theorem yBd_10 {a0 : Act} {w : World} {VB BD X Y Z U V W : Nat} (E : EnvBd a0 w VB BD X Y Z U V W) {R : Exit → Act → World → Prop} {a : Act} {x : World} (q : Q w x) (oth : ∀ j, j ∉ sBd → a.tmps[j]? = a0.tmps[j]?) (dep : ∀ ed ∈ oBd_10.after, Region.binds .any ed = true → ∀ t', sBd[ed.on]? = some t' → ∃ v, a.tmps[t']? = some v ∧ specAt (spBd VB BD X Y Z U V W) ed.on v x) : Yld Try.prog R oBd_10 a x 86 (specAt (spBd VB BD X Y Z U V W) 10) := by
  obtain ⟨v9, t9, f9⟩ := dep ⟨9, .data⟩ (by simp [oBd_10]) rfl 85 rfl
  have f9 : v9 = (.int .u32 (W : Nat)) := f9
  subst f9
  have hc := fin7_any W E.lW x
  rw [decide_eq_true E.fW] at hc
  refine yld_call (enters_of Try.func24 (by kernel_rfl) rfl) (args1 t9) (hc.mono ?_)
  rintro u x' ⟨rfl, rfl⟩
  exact ⟨_, rfl, Q.refl _, rfl⟩
theorem yBd_11 {a0 : Act} {w : World} {VB BD X Y Z U V W : Nat} (E : EnvBd a0 w VB BD X Y Z U V W) {R : Exit → Act → World → Prop} {a : Act} {x : World} (q : Q w x) (oth : ∀ j, j ∉ sBd → a.tmps[j]? = a0.tmps[j]?) (dep : ∀ ed ∈ oBd_11.after, Region.binds .any ed = true → ∀ t', sBd[ed.on]? = some t' → ∃ v, a.tmps[t']? = some v ∧ specAt (spBd VB BD X Y Z U V W) ed.on v x) : Yld Try.prog R oBd_11 a x 87 (specAt (spBd VB BD X Y Z U V W) 11) := by
  obtain ⟨v10, t10, f10⟩ := dep ⟨10, .data⟩ (by simp [oBd_11]) rfl 86 rfl
  have f10 : v10 = (.bool true) := f10
  subst f10
  exact yld_run (x' := x) rfl (run_notb (tmp_eval t10)) (Q.refl x) rfl
theorem yBd_12 {a0 : Act} {w : World} {VB BD X Y Z U V W : Nat} (E : EnvBd a0 w VB BD X Y Z U V W) {R : Exit → Act → World → Prop} {a : Act} {x : World} (q : Q w x) (oth : ∀ j, j ∉ sBd → a.tmps[j]? = a0.tmps[j]?) (dep : ∀ ed ∈ oBd_12.after, Region.binds .any ed = true → ∀ t', sBd[ed.on]? = some t' → ∃ v, a.tmps[t']? = some v ∧ specAt (spBd VB BD X Y Z U V W) ed.on v x) : Yld Try.prog R oBd_12 a x 88 (specAt (spBd VB BD X Y Z U V W) 12) := by
  obtain ⟨v8, t8, f8⟩ := dep ⟨8, .data⟩ (by simp [oBd_12]) rfl 84 rfl
  have f8 : v8 = (.bool false) := f8
  subst f8
  obtain ⟨v11, t11, f11⟩ := dep ⟨11, .data⟩ (by simp [oBd_12]) rfl 87 rfl
  have f11 : v11 = (.bool false) := f11
  subst f11
  exact yld_run (x' := x) rfl (run_orf (tmp_eval t8) (tmp_eval t11)) (Q.refl x) rfl
theorem yBd_13 {a0 : Act} {w : World} {VB BD X Y Z U V W : Nat} (E : EnvBd a0 w VB BD X Y Z U V W) {R : Exit → Act → World → Prop} {a : Act} {x : World} (q : Q w x) (oth : ∀ j, j ∉ sBd → a.tmps[j]? = a0.tmps[j]?) (dep : ∀ ed ∈ oBd_13.after, Region.binds .any ed = true → ∀ t', sBd[ed.on]? = some t' → ∃ v, a.tmps[t']? = some v ∧ specAt (spBd VB BD X Y Z U V W) ed.on v x) : Yld Try.prog R oBd_13 a x 89 (specAt (spBd VB BD X Y Z U V W) 13) := by
  obtain ⟨v12, t12, f12⟩ := dep ⟨12, .data⟩ (by simp [oBd_13]) rfl 88 rfl
  have f12 : v12 = (.bool false) := f12
  subst f12
  exact yld_move t12 rfl
theorem yBd_14 {a0 : Act} {w : World} {VB BD X Y Z U V W : Nat} (E : EnvBd a0 w VB BD X Y Z U V W) {R : Exit → Act → World → Prop} {a : Act} {x : World} (q : Q w x) (oth : ∀ j, j ∉ sBd → a.tmps[j]? = a0.tmps[j]?) (dep : ∀ ed ∈ oBd_14.after, Region.binds .any ed = true → ∀ t', sBd[ed.on]? = some t' → ∃ v, a.tmps[t']? = some v ∧ specAt (spBd VB BD X Y Z U V W) ed.on v x) : Yld Try.prog R oBd_14 a x 90 (specAt (spBd VB BD X Y Z U V W) 14) := by
  exact yld_move ((oth 0 (by decide)).trans E.h0) rfl
theorem yBd_15 {a0 : Act} {w : World} {VB BD X Y Z U V W : Nat} (E : EnvBd a0 w VB BD X Y Z U V W) {R : Exit → Act → World → Prop} {a : Act} {x : World} (q : Q w x) (oth : ∀ j, j ∉ sBd → a.tmps[j]? = a0.tmps[j]?) (dep : ∀ ed ∈ oBd_15.after, Region.binds .any ed = true → ∀ t', sBd[ed.on]? = some t' → ∃ v, a.tmps[t']? = some v ∧ specAt (spBd VB BD X Y Z U V W) ed.on v x) : Yld Try.prog R oBd_15 a x 91 (specAt (spBd VB BD X Y Z U V W) 15) := by
  exact yld_move ((oth 12 (by decide)).trans E.h12) rfl
theorem yBd_16 {a0 : Act} {w : World} {VB BD X Y Z U V W : Nat} (E : EnvBd a0 w VB BD X Y Z U V W) {R : Exit → Act → World → Prop} {a : Act} {x : World} (q : Q w x) (oth : ∀ j, j ∉ sBd → a.tmps[j]? = a0.tmps[j]?) (dep : ∀ ed ∈ oBd_16.after, Region.binds .any ed = true → ∀ t', sBd[ed.on]? = some t' → ∃ v, a.tmps[t']? = some v ∧ specAt (spBd VB BD X Y Z U V W) ed.on v x) : Yld Try.prog R oBd_16 a x 92 (specAt (spBd VB BD X Y Z U V W) 16) := by
  obtain ⟨v14, t14, f14⟩ := dep ⟨14, .data⟩ (by simp [oBd_16]) rfl 90 rfl
  have f14 : v14 = (.int .u32 (X : Nat)) := f14
  subst f14
  obtain ⟨v15, t15, f15⟩ := dep ⟨15, .data⟩ (by simp [oBd_16]) rfl 91 rfl
  have f15 : v15 = (.int .u32 (U : Nat)) := f15
  subst f15
  refine yld_call (enters_of Try.func30 (by kernel_rfl) rfl) (args2 t14 t15) ((off_any X U E.lX E.lU E.fX E.fU x).mono ?_)
  rintro u x' ⟨v, rfl, h, q'⟩
  exact ⟨v, rfl, q', h⟩
theorem yBd_17 {a0 : Act} {w : World} {VB BD X Y Z U V W : Nat} (E : EnvBd a0 w VB BD X Y Z U V W) {R : Exit → Act → World → Prop} {a : Act} {x : World} (q : Q w x) (oth : ∀ j, j ∉ sBd → a.tmps[j]? = a0.tmps[j]?) (dep : ∀ ed ∈ oBd_17.after, Region.binds .any ed = true → ∀ t', sBd[ed.on]? = some t' → ∃ v, a.tmps[t']? = some v ∧ specAt (spBd VB BD X Y Z U V W) ed.on v x) : Yld Try.prog R oBd_17 a x 93 (specAt (spBd VB BD X Y Z U V W) 17) := by
  obtain ⟨k, s, p, L, C, e, m, b1, b2⟩ := E.zb.next q
  exact yld_run (x' := x) rfl (run_num (tmp_eval ((oth 8 (by decide)).trans E.h8)) b1) (Q.refl x) b2
theorem yBd_18 {a0 : Act} {w : World} {VB BD X Y Z U V W : Nat} (E : EnvBd a0 w VB BD X Y Z U V W) {R : Exit → Act → World → Prop} {a : Act} {x : World} (q : Q w x) (oth : ∀ j, j ∉ sBd → a.tmps[j]? = a0.tmps[j]?) (dep : ∀ ed ∈ oBd_18.after, Region.binds .any ed = true → ∀ t', sBd[ed.on]? = some t' → ∃ v, a.tmps[t']? = some v ∧ specAt (spBd VB BD X Y Z U V W) ed.on v x) : Yld Try.prog R oBd_18 a x 94 (specAt (spBd VB BD X Y Z U V W) 18) := by
  obtain ⟨v16, t16, f16⟩ := dep ⟨16, .data⟩ (by simp [oBd_18]) rfl 92 rfl
  have f16 : (szQ (sampleZ X - sampleZ U).natAbs).p v16 x := f16
  obtain ⟨v17, t17, f17⟩ := dep ⟨17, .data⟩ (by simp [oBd_18]) rfl 93 rfl
  have f17 : (szQ BD).p v17 x := f17
  have hw := within_sz f16 f17
  rw [decide_eq_true E.o1] at hw
  refine yld_call (enters_of Try.func26 (by kernel_rfl) rfl) (args2 t16 t17) (hw.mono ?_)
  rintro u x' ⟨rfl, q'⟩
  exact ⟨_, rfl, q', rfl⟩
theorem yBd_19 {a0 : Act} {w : World} {VB BD X Y Z U V W : Nat} (E : EnvBd a0 w VB BD X Y Z U V W) {R : Exit → Act → World → Prop} {a : Act} {x : World} (q : Q w x) (oth : ∀ j, j ∉ sBd → a.tmps[j]? = a0.tmps[j]?) (dep : ∀ ed ∈ oBd_19.after, Region.binds .any ed = true → ∀ t', sBd[ed.on]? = some t' → ∃ v, a.tmps[t']? = some v ∧ specAt (spBd VB BD X Y Z U V W) ed.on v x) : Yld Try.prog R oBd_19 a x 95 (specAt (spBd VB BD X Y Z U V W) 19) := by
  obtain ⟨v18, t18, f18⟩ := dep ⟨18, .data⟩ (by simp [oBd_19]) rfl 94 rfl
  have f18 : v18 = (.bool true) := f18
  subst f18
  exact yld_run (x' := x) rfl (run_notb (tmp_eval t18)) (Q.refl x) rfl
theorem yBd_20 {a0 : Act} {w : World} {VB BD X Y Z U V W : Nat} (E : EnvBd a0 w VB BD X Y Z U V W) {R : Exit → Act → World → Prop} {a : Act} {x : World} (q : Q w x) (oth : ∀ j, j ∉ sBd → a.tmps[j]? = a0.tmps[j]?) (dep : ∀ ed ∈ oBd_20.after, Region.binds .any ed = true → ∀ t', sBd[ed.on]? = some t' → ∃ v, a.tmps[t']? = some v ∧ specAt (spBd VB BD X Y Z U V W) ed.on v x) : Yld Try.prog R oBd_20 a x 96 (specAt (spBd VB BD X Y Z U V W) 20) := by
  obtain ⟨v13, t13, f13⟩ := dep ⟨13, .data⟩ (by simp [oBd_20]) rfl 89 rfl
  have f13 : v13 = (.bool false) := f13
  subst f13
  obtain ⟨v19, t19, f19⟩ := dep ⟨19, .data⟩ (by simp [oBd_20]) rfl 95 rfl
  have f19 : v19 = (.bool false) := f19
  subst f19
  exact yld_run (x' := x) rfl (run_orf (tmp_eval t13) (tmp_eval t19)) (Q.refl x) rfl
theorem yBd_21 {a0 : Act} {w : World} {VB BD X Y Z U V W : Nat} (E : EnvBd a0 w VB BD X Y Z U V W) {R : Exit → Act → World → Prop} {a : Act} {x : World} (q : Q w x) (oth : ∀ j, j ∉ sBd → a.tmps[j]? = a0.tmps[j]?) (dep : ∀ ed ∈ oBd_21.after, Region.binds .any ed = true → ∀ t', sBd[ed.on]? = some t' → ∃ v, a.tmps[t']? = some v ∧ specAt (spBd VB BD X Y Z U V W) ed.on v x) : Yld Try.prog R oBd_21 a x 97 (specAt (spBd VB BD X Y Z U V W) 21) := by
  obtain ⟨v20, t20, f20⟩ := dep ⟨20, .data⟩ (by simp [oBd_21]) rfl 96 rfl
  have f20 : v20 = (.bool false) := f20
  subst f20
  exact yld_move t20 rfl
theorem yBd_22 {a0 : Act} {w : World} {VB BD X Y Z U V W : Nat} (E : EnvBd a0 w VB BD X Y Z U V W) {R : Exit → Act → World → Prop} {a : Act} {x : World} (q : Q w x) (oth : ∀ j, j ∉ sBd → a.tmps[j]? = a0.tmps[j]?) (dep : ∀ ed ∈ oBd_22.after, Region.binds .any ed = true → ∀ t', sBd[ed.on]? = some t' → ∃ v, a.tmps[t']? = some v ∧ specAt (spBd VB BD X Y Z U V W) ed.on v x) : Yld Try.prog R oBd_22 a x 98 (specAt (spBd VB BD X Y Z U V W) 22) := by
  exact yld_move ((oth 1 (by decide)).trans E.h1) rfl
theorem yBd_23 {a0 : Act} {w : World} {VB BD X Y Z U V W : Nat} (E : EnvBd a0 w VB BD X Y Z U V W) {R : Exit → Act → World → Prop} {a : Act} {x : World} (q : Q w x) (oth : ∀ j, j ∉ sBd → a.tmps[j]? = a0.tmps[j]?) (dep : ∀ ed ∈ oBd_23.after, Region.binds .any ed = true → ∀ t', sBd[ed.on]? = some t' → ∃ v, a.tmps[t']? = some v ∧ specAt (spBd VB BD X Y Z U V W) ed.on v x) : Yld Try.prog R oBd_23 a x 99 (specAt (spBd VB BD X Y Z U V W) 23) := by
  exact yld_move ((oth 13 (by decide)).trans E.h13) rfl
theorem yBd_24 {a0 : Act} {w : World} {VB BD X Y Z U V W : Nat} (E : EnvBd a0 w VB BD X Y Z U V W) {R : Exit → Act → World → Prop} {a : Act} {x : World} (q : Q w x) (oth : ∀ j, j ∉ sBd → a.tmps[j]? = a0.tmps[j]?) (dep : ∀ ed ∈ oBd_24.after, Region.binds .any ed = true → ∀ t', sBd[ed.on]? = some t' → ∃ v, a.tmps[t']? = some v ∧ specAt (spBd VB BD X Y Z U V W) ed.on v x) : Yld Try.prog R oBd_24 a x 100 (specAt (spBd VB BD X Y Z U V W) 24) := by
  obtain ⟨v22, t22, f22⟩ := dep ⟨22, .data⟩ (by simp [oBd_24]) rfl 98 rfl
  have f22 : v22 = (.int .u32 (Y : Nat)) := f22
  subst f22
  obtain ⟨v23, t23, f23⟩ := dep ⟨23, .data⟩ (by simp [oBd_24]) rfl 99 rfl
  have f23 : v23 = (.int .u32 (V : Nat)) := f23
  subst f23
  refine yld_call (enters_of Try.func30 (by kernel_rfl) rfl) (args2 t22 t23) ((off_any Y V E.lY E.lV E.fY E.fV x).mono ?_)
  rintro u x' ⟨v, rfl, h, q'⟩
  exact ⟨v, rfl, q', h⟩
theorem yBd_25 {a0 : Act} {w : World} {VB BD X Y Z U V W : Nat} (E : EnvBd a0 w VB BD X Y Z U V W) {R : Exit → Act → World → Prop} {a : Act} {x : World} (q : Q w x) (oth : ∀ j, j ∉ sBd → a.tmps[j]? = a0.tmps[j]?) (dep : ∀ ed ∈ oBd_25.after, Region.binds .any ed = true → ∀ t', sBd[ed.on]? = some t' → ∃ v, a.tmps[t']? = some v ∧ specAt (spBd VB BD X Y Z U V W) ed.on v x) : Yld Try.prog R oBd_25 a x 101 (specAt (spBd VB BD X Y Z U V W) 25) := by
  obtain ⟨k, s, p, L, C, e, m, b1, b2⟩ := E.zb.next q
  exact yld_run (x' := x) rfl (run_num (tmp_eval ((oth 8 (by decide)).trans E.h8)) b1) (Q.refl x) b2
theorem yBd_26 {a0 : Act} {w : World} {VB BD X Y Z U V W : Nat} (E : EnvBd a0 w VB BD X Y Z U V W) {R : Exit → Act → World → Prop} {a : Act} {x : World} (q : Q w x) (oth : ∀ j, j ∉ sBd → a.tmps[j]? = a0.tmps[j]?) (dep : ∀ ed ∈ oBd_26.after, Region.binds .any ed = true → ∀ t', sBd[ed.on]? = some t' → ∃ v, a.tmps[t']? = some v ∧ specAt (spBd VB BD X Y Z U V W) ed.on v x) : Yld Try.prog R oBd_26 a x 102 (specAt (spBd VB BD X Y Z U V W) 26) := by
  obtain ⟨v24, t24, f24⟩ := dep ⟨24, .data⟩ (by simp [oBd_26]) rfl 100 rfl
  have f24 : (szQ (sampleZ Y - sampleZ V).natAbs).p v24 x := f24
  obtain ⟨v25, t25, f25⟩ := dep ⟨25, .data⟩ (by simp [oBd_26]) rfl 101 rfl
  have f25 : (szQ BD).p v25 x := f25
  have hw := within_sz f24 f25
  rw [decide_eq_true E.o2] at hw
  refine yld_call (enters_of Try.func26 (by kernel_rfl) rfl) (args2 t24 t25) (hw.mono ?_)
  rintro u x' ⟨rfl, q'⟩
  exact ⟨_, rfl, q', rfl⟩
theorem yBd_27 {a0 : Act} {w : World} {VB BD X Y Z U V W : Nat} (E : EnvBd a0 w VB BD X Y Z U V W) {R : Exit → Act → World → Prop} {a : Act} {x : World} (q : Q w x) (oth : ∀ j, j ∉ sBd → a.tmps[j]? = a0.tmps[j]?) (dep : ∀ ed ∈ oBd_27.after, Region.binds .any ed = true → ∀ t', sBd[ed.on]? = some t' → ∃ v, a.tmps[t']? = some v ∧ specAt (spBd VB BD X Y Z U V W) ed.on v x) : Yld Try.prog R oBd_27 a x 103 (specAt (spBd VB BD X Y Z U V W) 27) := by
  obtain ⟨v26, t26, f26⟩ := dep ⟨26, .data⟩ (by simp [oBd_27]) rfl 102 rfl
  have f26 : v26 = (.bool true) := f26
  subst f26
  exact yld_run (x' := x) rfl (run_notb (tmp_eval t26)) (Q.refl x) rfl
theorem yBd_28 {a0 : Act} {w : World} {VB BD X Y Z U V W : Nat} (E : EnvBd a0 w VB BD X Y Z U V W) {R : Exit → Act → World → Prop} {a : Act} {x : World} (q : Q w x) (oth : ∀ j, j ∉ sBd → a.tmps[j]? = a0.tmps[j]?) (dep : ∀ ed ∈ oBd_28.after, Region.binds .any ed = true → ∀ t', sBd[ed.on]? = some t' → ∃ v, a.tmps[t']? = some v ∧ specAt (spBd VB BD X Y Z U V W) ed.on v x) : Yld Try.prog R oBd_28 a x 104 (specAt (spBd VB BD X Y Z U V W) 28) := by
  obtain ⟨v21, t21, f21⟩ := dep ⟨21, .data⟩ (by simp [oBd_28]) rfl 97 rfl
  have f21 : v21 = (.bool false) := f21
  subst f21
  obtain ⟨v27, t27, f27⟩ := dep ⟨27, .data⟩ (by simp [oBd_28]) rfl 103 rfl
  have f27 : v27 = (.bool false) := f27
  subst f27
  exact yld_run (x' := x) rfl (run_orf (tmp_eval t21) (tmp_eval t27)) (Q.refl x) rfl
theorem yBd_29 {a0 : Act} {w : World} {VB BD X Y Z U V W : Nat} (E : EnvBd a0 w VB BD X Y Z U V W) {R : Exit → Act → World → Prop} {a : Act} {x : World} (q : Q w x) (oth : ∀ j, j ∉ sBd → a.tmps[j]? = a0.tmps[j]?) (dep : ∀ ed ∈ oBd_29.after, Region.binds .any ed = true → ∀ t', sBd[ed.on]? = some t' → ∃ v, a.tmps[t']? = some v ∧ specAt (spBd VB BD X Y Z U V W) ed.on v x) : Yld Try.prog R oBd_29 a x 105 (specAt (spBd VB BD X Y Z U V W) 29) := by
  obtain ⟨v28, t28, f28⟩ := dep ⟨28, .data⟩ (by simp [oBd_29]) rfl 104 rfl
  have f28 : v28 = (.bool false) := f28
  subst f28
  exact yld_move t28 rfl
theorem yBd_30 {a0 : Act} {w : World} {VB BD X Y Z U V W : Nat} (E : EnvBd a0 w VB BD X Y Z U V W) {R : Exit → Act → World → Prop} {a : Act} {x : World} (q : Q w x) (oth : ∀ j, j ∉ sBd → a.tmps[j]? = a0.tmps[j]?) (dep : ∀ ed ∈ oBd_30.after, Region.binds .any ed = true → ∀ t', sBd[ed.on]? = some t' → ∃ v, a.tmps[t']? = some v ∧ specAt (spBd VB BD X Y Z U V W) ed.on v x) : Yld Try.prog R oBd_30 a x 106 (specAt (spBd VB BD X Y Z U V W) 30) := by
  exact yld_move ((oth 2 (by decide)).trans E.h2) rfl
theorem yBd_31 {a0 : Act} {w : World} {VB BD X Y Z U V W : Nat} (E : EnvBd a0 w VB BD X Y Z U V W) {R : Exit → Act → World → Prop} {a : Act} {x : World} (q : Q w x) (oth : ∀ j, j ∉ sBd → a.tmps[j]? = a0.tmps[j]?) (dep : ∀ ed ∈ oBd_31.after, Region.binds .any ed = true → ∀ t', sBd[ed.on]? = some t' → ∃ v, a.tmps[t']? = some v ∧ specAt (spBd VB BD X Y Z U V W) ed.on v x) : Yld Try.prog R oBd_31 a x 107 (specAt (spBd VB BD X Y Z U V W) 31) := by
  exact yld_move ((oth 14 (by decide)).trans E.h14) rfl
theorem yBd_32 {a0 : Act} {w : World} {VB BD X Y Z U V W : Nat} (E : EnvBd a0 w VB BD X Y Z U V W) {R : Exit → Act → World → Prop} {a : Act} {x : World} (q : Q w x) (oth : ∀ j, j ∉ sBd → a.tmps[j]? = a0.tmps[j]?) (dep : ∀ ed ∈ oBd_32.after, Region.binds .any ed = true → ∀ t', sBd[ed.on]? = some t' → ∃ v, a.tmps[t']? = some v ∧ specAt (spBd VB BD X Y Z U V W) ed.on v x) : Yld Try.prog R oBd_32 a x 108 (specAt (spBd VB BD X Y Z U V W) 32) := by
  obtain ⟨v30, t30, f30⟩ := dep ⟨30, .data⟩ (by simp [oBd_32]) rfl 106 rfl
  have f30 : v30 = (.int .u32 (Z : Nat)) := f30
  subst f30
  obtain ⟨v31, t31, f31⟩ := dep ⟨31, .data⟩ (by simp [oBd_32]) rfl 107 rfl
  have f31 : v31 = (.int .u32 (W : Nat)) := f31
  subst f31
  refine yld_call (enters_of Try.func30 (by kernel_rfl) rfl) (args2 t30 t31) ((off_any Z W E.lZ E.lW E.fZ E.fW x).mono ?_)
  rintro u x' ⟨v, rfl, h, q'⟩
  exact ⟨v, rfl, q', h⟩
theorem yBd_33 {a0 : Act} {w : World} {VB BD X Y Z U V W : Nat} (E : EnvBd a0 w VB BD X Y Z U V W) {R : Exit → Act → World → Prop} {a : Act} {x : World} (q : Q w x) (oth : ∀ j, j ∉ sBd → a.tmps[j]? = a0.tmps[j]?) (dep : ∀ ed ∈ oBd_33.after, Region.binds .any ed = true → ∀ t', sBd[ed.on]? = some t' → ∃ v, a.tmps[t']? = some v ∧ specAt (spBd VB BD X Y Z U V W) ed.on v x) : Yld Try.prog R oBd_33 a x 109 (specAt (spBd VB BD X Y Z U V W) 33) := by
  obtain ⟨k, s, p, L, C, e, m, b1, b2⟩ := E.zb.next q
  exact yld_run (x' := x) rfl (run_num (tmp_eval ((oth 8 (by decide)).trans E.h8)) b1) (Q.refl x) b2
theorem yBd_34 {a0 : Act} {w : World} {VB BD X Y Z U V W : Nat} (E : EnvBd a0 w VB BD X Y Z U V W) {R : Exit → Act → World → Prop} {a : Act} {x : World} (q : Q w x) (oth : ∀ j, j ∉ sBd → a.tmps[j]? = a0.tmps[j]?) (dep : ∀ ed ∈ oBd_34.after, Region.binds .any ed = true → ∀ t', sBd[ed.on]? = some t' → ∃ v, a.tmps[t']? = some v ∧ specAt (spBd VB BD X Y Z U V W) ed.on v x) : Yld Try.prog R oBd_34 a x 110 (specAt (spBd VB BD X Y Z U V W) 34) := by
  obtain ⟨v32, t32, f32⟩ := dep ⟨32, .data⟩ (by simp [oBd_34]) rfl 108 rfl
  have f32 : (szQ (sampleZ Z - sampleZ W).natAbs).p v32 x := f32
  obtain ⟨v33, t33, f33⟩ := dep ⟨33, .data⟩ (by simp [oBd_34]) rfl 109 rfl
  have f33 : (szQ BD).p v33 x := f33
  have hw := within_sz f32 f33
  rw [decide_eq_true E.o3] at hw
  refine yld_call (enters_of Try.func26 (by kernel_rfl) rfl) (args2 t32 t33) (hw.mono ?_)
  rintro u x' ⟨rfl, q'⟩
  exact ⟨_, rfl, q', rfl⟩
theorem yBd_35 {a0 : Act} {w : World} {VB BD X Y Z U V W : Nat} (E : EnvBd a0 w VB BD X Y Z U V W) {R : Exit → Act → World → Prop} {a : Act} {x : World} (q : Q w x) (oth : ∀ j, j ∉ sBd → a.tmps[j]? = a0.tmps[j]?) (dep : ∀ ed ∈ oBd_35.after, Region.binds .any ed = true → ∀ t', sBd[ed.on]? = some t' → ∃ v, a.tmps[t']? = some v ∧ specAt (spBd VB BD X Y Z U V W) ed.on v x) : Yld Try.prog R oBd_35 a x 111 (specAt (spBd VB BD X Y Z U V W) 35) := by
  obtain ⟨v34, t34, f34⟩ := dep ⟨34, .data⟩ (by simp [oBd_35]) rfl 110 rfl
  have f34 : v34 = (.bool true) := f34
  subst f34
  exact yld_run (x' := x) rfl (run_notb (tmp_eval t34)) (Q.refl x) rfl
theorem yBd_36 {a0 : Act} {w : World} {VB BD X Y Z U V W : Nat} (E : EnvBd a0 w VB BD X Y Z U V W) {R : Exit → Act → World → Prop} {a : Act} {x : World} (q : Q w x) (oth : ∀ j, j ∉ sBd → a.tmps[j]? = a0.tmps[j]?) (dep : ∀ ed ∈ oBd_36.after, Region.binds .any ed = true → ∀ t', sBd[ed.on]? = some t' → ∃ v, a.tmps[t']? = some v ∧ specAt (spBd VB BD X Y Z U V W) ed.on v x) : Yld Try.prog R oBd_36 a x 112 (specAt (spBd VB BD X Y Z U V W) 36) := by
  obtain ⟨v29, t29, f29⟩ := dep ⟨29, .data⟩ (by simp [oBd_36]) rfl 105 rfl
  have f29 : v29 = (.bool false) := f29
  subst f29
  obtain ⟨v35, t35, f35⟩ := dep ⟨35, .data⟩ (by simp [oBd_36]) rfl 111 rfl
  have f35 : v35 = (.bool false) := f35
  subst f35
  exact yld_run (x' := x) rfl (run_orf (tmp_eval t29) (tmp_eval t35)) (Q.refl x) rfl
theorem hopBd {a0 : Act} {w : World} {VB BD X Y Z U V W : Nat} (E : EnvBd a0 w VB BD X Y Z U V W) {R : Exit → Act → World → Prop} : ∀ (i t : Nat) (o : Oper) (a : Act) (x : World), skBd i = false → sBd[i]? = some t → opsBd[i]? = some o → Q w x → (∀ j, j ∉ sBd → a.tmps[j]? = a0.tmps[j]?) → (∀ ed ∈ o.after, Region.binds .any ed = true → ∀ t', sBd[ed.on]? = some t' → ∃ v, a.tmps[t']? = some v ∧ specAt (spBd VB BD X Y Z U V W) ed.on v x) → Yld Try.prog R o a x t (specAt (spBd VB BD X Y Z U V W) i)
  | 0, t, o, a, x, hi, ht, ho, q, oth, dep => by
    have e1 : oBd_0 = o := Option.some.inj ho
    have e2 : 76 = t := Option.some.inj ht
    subst e1 e2
    exact yBd_0 E q oth dep
  | 1, t, o, a, x, hi, ht, ho, q, oth, dep => by
    have e1 : oBd_1 = o := Option.some.inj ho
    have e2 : 77 = t := Option.some.inj ht
    subst e1 e2
    exact yBd_1 E q oth dep
  | 2, t, o, a, x, hi, ht, ho, q, oth, dep => by
    have e1 : oBd_2 = o := Option.some.inj ho
    have e2 : 78 = t := Option.some.inj ht
    subst e1 e2
    exact yBd_2 E q oth dep
  | 3, t, o, a, x, hi, ht, ho, q, oth, dep => by
    have e1 : oBd_3 = o := Option.some.inj ho
    have e2 : 79 = t := Option.some.inj ht
    subst e1 e2
    exact yBd_3 E q oth dep
  | 4, t, o, a, x, hi, ht, ho, q, oth, dep => by
    have e1 : oBd_4 = o := Option.some.inj ho
    have e2 : 80 = t := Option.some.inj ht
    subst e1 e2
    exact yBd_4 E q oth dep
  | 5, t, o, a, x, hi, ht, ho, q, oth, dep => by
    have e1 : oBd_5 = o := Option.some.inj ho
    have e2 : 81 = t := Option.some.inj ht
    subst e1 e2
    exact yBd_5 E q oth dep
  | 6, t, o, a, x, hi, ht, ho, q, oth, dep => by
    have e1 : oBd_6 = o := Option.some.inj ho
    have e2 : 82 = t := Option.some.inj ht
    subst e1 e2
    exact yBd_6 E q oth dep
  | 7, t, o, a, x, hi, ht, ho, q, oth, dep => by
    have e1 : oBd_7 = o := Option.some.inj ho
    have e2 : 83 = t := Option.some.inj ht
    subst e1 e2
    exact yBd_7 E q oth dep
  | 8, t, o, a, x, hi, ht, ho, q, oth, dep => by
    have e1 : oBd_8 = o := Option.some.inj ho
    have e2 : 84 = t := Option.some.inj ht
    subst e1 e2
    exact yBd_8 E q oth dep
  | 9, t, o, a, x, hi, ht, ho, q, oth, dep => by
    have e1 : oBd_9 = o := Option.some.inj ho
    have e2 : 85 = t := Option.some.inj ht
    subst e1 e2
    exact yBd_9 E q oth dep
  | 10, t, o, a, x, hi, ht, ho, q, oth, dep => by
    have e1 : oBd_10 = o := Option.some.inj ho
    have e2 : 86 = t := Option.some.inj ht
    subst e1 e2
    exact yBd_10 E q oth dep
  | 11, t, o, a, x, hi, ht, ho, q, oth, dep => by
    have e1 : oBd_11 = o := Option.some.inj ho
    have e2 : 87 = t := Option.some.inj ht
    subst e1 e2
    exact yBd_11 E q oth dep
  | 12, t, o, a, x, hi, ht, ho, q, oth, dep => by
    have e1 : oBd_12 = o := Option.some.inj ho
    have e2 : 88 = t := Option.some.inj ht
    subst e1 e2
    exact yBd_12 E q oth dep
  | 13, t, o, a, x, hi, ht, ho, q, oth, dep => by
    have e1 : oBd_13 = o := Option.some.inj ho
    have e2 : 89 = t := Option.some.inj ht
    subst e1 e2
    exact yBd_13 E q oth dep
  | 14, t, o, a, x, hi, ht, ho, q, oth, dep => by
    have e1 : oBd_14 = o := Option.some.inj ho
    have e2 : 90 = t := Option.some.inj ht
    subst e1 e2
    exact yBd_14 E q oth dep
  | 15, t, o, a, x, hi, ht, ho, q, oth, dep => by
    have e1 : oBd_15 = o := Option.some.inj ho
    have e2 : 91 = t := Option.some.inj ht
    subst e1 e2
    exact yBd_15 E q oth dep
  | 16, t, o, a, x, hi, ht, ho, q, oth, dep => by
    have e1 : oBd_16 = o := Option.some.inj ho
    have e2 : 92 = t := Option.some.inj ht
    subst e1 e2
    exact yBd_16 E q oth dep
  | 17, t, o, a, x, hi, ht, ho, q, oth, dep => by
    have e1 : oBd_17 = o := Option.some.inj ho
    have e2 : 93 = t := Option.some.inj ht
    subst e1 e2
    exact yBd_17 E q oth dep
  | 18, t, o, a, x, hi, ht, ho, q, oth, dep => by
    have e1 : oBd_18 = o := Option.some.inj ho
    have e2 : 94 = t := Option.some.inj ht
    subst e1 e2
    exact yBd_18 E q oth dep
  | 19, t, o, a, x, hi, ht, ho, q, oth, dep => by
    have e1 : oBd_19 = o := Option.some.inj ho
    have e2 : 95 = t := Option.some.inj ht
    subst e1 e2
    exact yBd_19 E q oth dep
  | 20, t, o, a, x, hi, ht, ho, q, oth, dep => by
    have e1 : oBd_20 = o := Option.some.inj ho
    have e2 : 96 = t := Option.some.inj ht
    subst e1 e2
    exact yBd_20 E q oth dep
  | 21, t, o, a, x, hi, ht, ho, q, oth, dep => by
    have e1 : oBd_21 = o := Option.some.inj ho
    have e2 : 97 = t := Option.some.inj ht
    subst e1 e2
    exact yBd_21 E q oth dep
  | 22, t, o, a, x, hi, ht, ho, q, oth, dep => by
    have e1 : oBd_22 = o := Option.some.inj ho
    have e2 : 98 = t := Option.some.inj ht
    subst e1 e2
    exact yBd_22 E q oth dep
  | 23, t, o, a, x, hi, ht, ho, q, oth, dep => by
    have e1 : oBd_23 = o := Option.some.inj ho
    have e2 : 99 = t := Option.some.inj ht
    subst e1 e2
    exact yBd_23 E q oth dep
  | 24, t, o, a, x, hi, ht, ho, q, oth, dep => by
    have e1 : oBd_24 = o := Option.some.inj ho
    have e2 : 100 = t := Option.some.inj ht
    subst e1 e2
    exact yBd_24 E q oth dep
  | 25, t, o, a, x, hi, ht, ho, q, oth, dep => by
    have e1 : oBd_25 = o := Option.some.inj ho
    have e2 : 101 = t := Option.some.inj ht
    subst e1 e2
    exact yBd_25 E q oth dep
  | 26, t, o, a, x, hi, ht, ho, q, oth, dep => by
    have e1 : oBd_26 = o := Option.some.inj ho
    have e2 : 102 = t := Option.some.inj ht
    subst e1 e2
    exact yBd_26 E q oth dep
  | 27, t, o, a, x, hi, ht, ho, q, oth, dep => by
    have e1 : oBd_27 = o := Option.some.inj ho
    have e2 : 103 = t := Option.some.inj ht
    subst e1 e2
    exact yBd_27 E q oth dep
  | 28, t, o, a, x, hi, ht, ho, q, oth, dep => by
    have e1 : oBd_28 = o := Option.some.inj ho
    have e2 : 104 = t := Option.some.inj ht
    subst e1 e2
    exact yBd_28 E q oth dep
  | 29, t, o, a, x, hi, ht, ho, q, oth, dep => by
    have e1 : oBd_29 = o := Option.some.inj ho
    have e2 : 105 = t := Option.some.inj ht
    subst e1 e2
    exact yBd_29 E q oth dep
  | 30, t, o, a, x, hi, ht, ho, q, oth, dep => by
    have e1 : oBd_30 = o := Option.some.inj ho
    have e2 : 106 = t := Option.some.inj ht
    subst e1 e2
    exact yBd_30 E q oth dep
  | 31, t, o, a, x, hi, ht, ho, q, oth, dep => by
    have e1 : oBd_31 = o := Option.some.inj ho
    have e2 : 107 = t := Option.some.inj ht
    subst e1 e2
    exact yBd_31 E q oth dep
  | 32, t, o, a, x, hi, ht, ho, q, oth, dep => by
    have e1 : oBd_32 = o := Option.some.inj ho
    have e2 : 108 = t := Option.some.inj ht
    subst e1 e2
    exact yBd_32 E q oth dep
  | 33, t, o, a, x, hi, ht, ho, q, oth, dep => by
    have e1 : oBd_33 = o := Option.some.inj ho
    have e2 : 109 = t := Option.some.inj ht
    subst e1 e2
    exact yBd_33 E q oth dep
  | 34, t, o, a, x, hi, ht, ho, q, oth, dep => by
    have e1 : oBd_34 = o := Option.some.inj ho
    have e2 : 110 = t := Option.some.inj ht
    subst e1 e2
    exact yBd_34 E q oth dep
  | 35, t, o, a, x, hi, ht, ho, q, oth, dep => by
    have e1 : oBd_35 = o := Option.some.inj ho
    have e2 : 111 = t := Option.some.inj ht
    subst e1 e2
    exact yBd_35 E q oth dep
  | 36, t, o, a, x, hi, ht, ho, q, oth, dep => by
    have e1 : oBd_36 = o := Option.some.inj ho
    have e2 : 112 = t := Option.some.inj ht
    subst e1 e2
    exact yBd_36 E q oth dep
  | i + 37, t, o, a, x, hi, ht, ho, q, oth, dep => by cases ho
theorem keyBd : ∀ i, i < 37 → ((opsBd[i]?).bind (fun o : Oper => o.guard) = none ∧ skBd i = false) ∨ ((opsBd[i]?).bind (fun o : Oper => o.guard) = some (3, false) ∧ skBd i = false) ∨ ((opsBd[i]?).bind (fun o : Oper => o.guard) = some (8, false) ∧ skBd i = false) ∨ ((opsBd[i]?).bind (fun o : Oper => o.guard) = some (13, false) ∧ skBd i = false) ∨ ((opsBd[i]?).bind (fun o : Oper => o.guard) = some (21, false) ∧ skBd i = false) ∨ ((opsBd[i]?).bind (fun o : Oper => o.guard) = some (29, false) ∧ skBd i = false) := by decide +kernel
theorem hguBd {VB BD X Y Z U V W : Nat} : ∀ (i : Nat) (o : Oper) (g : Nat) (b : Bool), opsBd[i]? = some o → o.guard = some (g, b) → ∀ v x, specAt (spBd VB BD X Y Z U V W) g v x → (v = .bool b ↔ skBd i = false) := by
  intro i o g b ho hg v x hf
  have h := keyBd i (List.getElem?_eq_some_iff.1 ho).1
  rw [ho] at h
  simp only [Option.bind_some] at h
  rw [hg] at h
  rcases h with ⟨h, _⟩ | ⟨h, hs⟩ | ⟨h, hs⟩ | ⟨h, hs⟩ | ⟨h, hs⟩ | ⟨h, hs⟩
  · cases h
  · injection h with h
    injection h with h1 h2
    subst h1 h2
    have hv : v = .bool false := hf
    subst hv
    rw [hs]
    simp
  · injection h with h
    injection h with h1 h2
    subst h1 h2
    have hv : v = .bool false := hf
    subst hv
    rw [hs]
    simp
  · injection h with h
    injection h with h1 h2
    subst h1 h2
    have hv : v = .bool false := hf
    subst hv
    rw [hs]
    simp
  · injection h with h
    injection h with h1 h2
    subst h1 h2
    have hv : v = .bool false := hf
    subst hv
    rw [hs]
    simp
  · injection h with h
    injection h with h1 h2
    subst h1 h2
    have hv : v = .bool false := hf
    subst hv
    rw [hs]
    simp
theorem hgnBd : ∀ (i : Nat) (o : Oper), opsBd[i]? = some o → o.guard = none → skBd i = false := by
  intro i o ho hg
  have h := keyBd i (List.getElem?_eq_some_iff.1 ho).1
  rw [ho] at h
  simp only [Option.bind_some] at h
  rw [hg] at h
  rcases h with ⟨_, h⟩ | ⟨h, _⟩ | ⟨h, _⟩ | ⟨h, _⟩ | ⟨h, _⟩ | ⟨h, _⟩
  · exact h
  · cases h
  · cases h
  · cases h
  · cases h
  · cases h
theorem hskBd {VB BD X Y Z U V W : Nat} : ∀ (i : Nat) (x : World), skBd i = true → specAt (spBd VB BD X Y Z U V W) i undef x := by
  intro i x h
  cases h
theorem regionBd {id : Nat} {l : List Oper} {R : Exit → Act → World → Prop} {a0 : Act} {w : World} {VB BD X Y Z U V W : Nat} (hl : l = opsBd) (hsz : a0.tmps.size = 155) (E : EnvBd a0 w VB BD X Y Z U V W)
    (hR : ∀ x v16 v17 v24 v25 v32 v33, Q w x → R .normal (putAll a0 [(76, (.int .u32 (U : Nat))), (77, (.bool true)), (78, (.bool false)), (79, (.bool false)), (80, (.int .u32 (V : Nat))), (81, (.bool true)), (82, (.bool false)), (83, (.bool false)), (84, (.bool false)), (85, (.int .u32 (W : Nat))), (86, (.bool true)), (87, (.bool false)), (88, (.bool false)), (89, (.bool false)), (90, (.int .u32 (X : Nat))), (91, (.int .u32 (U : Nat))), (92, v16), (93, v17), (94, (.bool true)), (95, (.bool false)), (96, (.bool false)), (97, (.bool false)), (98, (.int .u32 (Y : Nat))), (99, (.int .u32 (V : Nat))), (100, v24), (101, v25), (102, (.bool true)), (103, (.bool false)), (104, (.bool false)), (105, (.bool false)), (106, (.int .u32 (Z : Nat))), (107, (.int .u32 (W : Nat))), (108, v32), (109, v33), (110, (.bool true)), (111, (.bool false)), (112, (.bool false))]) x) :
    (Code.region id l.toArray true).wp Try.prog R a0 w := by
  subst hl
  refine wp_region_factsS sBd (specAt (spBd VB BD X Y Z U V W)) skBd (by kernel_rfl) (by decide +kernel) (by decide) (fun t ht => ?_) specAt.next hguBd hgnBd hskBd (hopBd E) (fun a x q size defers other facts => ?_)
  · rw [hsz]
    revert t
    decide
  · obtain ⟨v0, t0, f0⟩ := facts 0 76 rfl
    have f0 : v0 = (.int .u32 (U : Nat)) := f0
    subst f0
    obtain ⟨v1, t1, f1⟩ := facts 1 77 rfl
    have f1 : v1 = (.bool true) := f1
    subst f1
    obtain ⟨v2, t2, f2⟩ := facts 2 78 rfl
    have f2 : v2 = (.bool false) := f2
    subst f2
    obtain ⟨v3, t3, f3⟩ := facts 3 79 rfl
    have f3 : v3 = (.bool false) := f3
    subst f3
    obtain ⟨v4, t4, f4⟩ := facts 4 80 rfl
    have f4 : v4 = (.int .u32 (V : Nat)) := f4
    subst f4
    obtain ⟨v5, t5, f5⟩ := facts 5 81 rfl
    have f5 : v5 = (.bool true) := f5
    subst f5
    obtain ⟨v6, t6, f6⟩ := facts 6 82 rfl
    have f6 : v6 = (.bool false) := f6
    subst f6
    obtain ⟨v7, t7, f7⟩ := facts 7 83 rfl
    have f7 : v7 = (.bool false) := f7
    subst f7
    obtain ⟨v8, t8, f8⟩ := facts 8 84 rfl
    have f8 : v8 = (.bool false) := f8
    subst f8
    obtain ⟨v9, t9, f9⟩ := facts 9 85 rfl
    have f9 : v9 = (.int .u32 (W : Nat)) := f9
    subst f9
    obtain ⟨v10, t10, f10⟩ := facts 10 86 rfl
    have f10 : v10 = (.bool true) := f10
    subst f10
    obtain ⟨v11, t11, f11⟩ := facts 11 87 rfl
    have f11 : v11 = (.bool false) := f11
    subst f11
    obtain ⟨v12, t12, f12⟩ := facts 12 88 rfl
    have f12 : v12 = (.bool false) := f12
    subst f12
    obtain ⟨v13, t13, f13⟩ := facts 13 89 rfl
    have f13 : v13 = (.bool false) := f13
    subst f13
    obtain ⟨v14, t14, f14⟩ := facts 14 90 rfl
    have f14 : v14 = (.int .u32 (X : Nat)) := f14
    subst f14
    obtain ⟨v15, t15, f15⟩ := facts 15 91 rfl
    have f15 : v15 = (.int .u32 (U : Nat)) := f15
    subst f15
    obtain ⟨v16, t16, f16⟩ := facts 16 92 rfl
    obtain ⟨v17, t17, f17⟩ := facts 17 93 rfl
    obtain ⟨v18, t18, f18⟩ := facts 18 94 rfl
    have f18 : v18 = (.bool true) := f18
    subst f18
    obtain ⟨v19, t19, f19⟩ := facts 19 95 rfl
    have f19 : v19 = (.bool false) := f19
    subst f19
    obtain ⟨v20, t20, f20⟩ := facts 20 96 rfl
    have f20 : v20 = (.bool false) := f20
    subst f20
    obtain ⟨v21, t21, f21⟩ := facts 21 97 rfl
    have f21 : v21 = (.bool false) := f21
    subst f21
    obtain ⟨v22, t22, f22⟩ := facts 22 98 rfl
    have f22 : v22 = (.int .u32 (Y : Nat)) := f22
    subst f22
    obtain ⟨v23, t23, f23⟩ := facts 23 99 rfl
    have f23 : v23 = (.int .u32 (V : Nat)) := f23
    subst f23
    obtain ⟨v24, t24, f24⟩ := facts 24 100 rfl
    obtain ⟨v25, t25, f25⟩ := facts 25 101 rfl
    obtain ⟨v26, t26, f26⟩ := facts 26 102 rfl
    have f26 : v26 = (.bool true) := f26
    subst f26
    obtain ⟨v27, t27, f27⟩ := facts 27 103 rfl
    have f27 : v27 = (.bool false) := f27
    subst f27
    obtain ⟨v28, t28, f28⟩ := facts 28 104 rfl
    have f28 : v28 = (.bool false) := f28
    subst f28
    obtain ⟨v29, t29, f29⟩ := facts 29 105 rfl
    have f29 : v29 = (.bool false) := f29
    subst f29
    obtain ⟨v30, t30, f30⟩ := facts 30 106 rfl
    have f30 : v30 = (.int .u32 (Z : Nat)) := f30
    subst f30
    obtain ⟨v31, t31, f31⟩ := facts 31 107 rfl
    have f31 : v31 = (.int .u32 (W : Nat)) := f31
    subst f31
    obtain ⟨v32, t32, f32⟩ := facts 32 108 rfl
    obtain ⟨v33, t33, f33⟩ := facts 33 109 rfl
    obtain ⟨v34, t34, f34⟩ := facts 34 110 rfl
    have f34 : v34 = (.bool true) := f34
    subst f34
    obtain ⟨v35, t35, f35⟩ := facts 35 111 rfl
    have f35 : v35 = (.bool false) := f35
    subst f35
    obtain ⟨v36, t36, f36⟩ := facts 36 112 rfl
    have f36 : v36 = (.bool false) := f36
    subst f36
    have hA := act_puts (a := a) (a0 := a0) [(76, (.int .u32 (U : Nat))), (77, (.bool true)), (78, (.bool false)), (79, (.bool false)), (80, (.int .u32 (V : Nat))), (81, (.bool true)), (82, (.bool false)), (83, (.bool false)), (84, (.bool false)), (85, (.int .u32 (W : Nat))), (86, (.bool true)), (87, (.bool false)), (88, (.bool false)), (89, (.bool false)), (90, (.int .u32 (X : Nat))), (91, (.int .u32 (U : Nat))), (92, v16), (93, v17), (94, (.bool true)), (95, (.bool false)), (96, (.bool false)), (97, (.bool false)), (98, (.int .u32 (Y : Nat))), (99, (.int .u32 (V : Nat))), (100, v24), (101, v25), (102, (.bool true)), (103, (.bool false)), (104, (.bool false)), (105, (.bool false)), (106, (.int .u32 (Z : Nat))), (107, (.int .u32 (W : Nat))), (108, v32), (109, v33), (110, (.bool true)), (111, (.bool false)), (112, (.bool false))] (by show [76, 77, 78, 79, 80, 81, 82, 83, 84, 85, 86, 87, 88, 89, 90, 91, 92, 93, 94, 95, 96, 97, 98, 99, 100, 101, 102, 103, 104, 105, 106, 107, 108, 109, 110, 111, 112].Nodup; decide) size defers (fun j hj => other j (fun hk => hj hk)) (fun r hr => by
      simp only [List.mem_cons, List.not_mem_nil, or_false] at hr
      rcases hr with rfl | rfl | rfl | rfl | rfl | rfl | rfl | rfl | rfl | rfl | rfl | rfl | rfl | rfl | rfl | rfl | rfl | rfl | rfl | rfl | rfl | rfl | rfl | rfl | rfl | rfl | rfl | rfl | rfl | rfl | rfl | rfl | rfl | rfl | rfl | rfl | rfl
      · exact t0
      · exact t1
      · exact t2
      · exact t3
      · exact t4
      · exact t5
      · exact t6
      · exact t7
      · exact t8
      · exact t9
      · exact t10
      · exact t11
      · exact t12
      · exact t13
      · exact t14
      · exact t15
      · exact t16
      · exact t17
      · exact t18
      · exact t19
      · exact t20
      · exact t21
      · exact t22
      · exact t23
      · exact t24
      · exact t25
      · exact t26
      · exact t27
      · exact t28
      · exact t29
      · exact t30
      · exact t31
      · exact t32
      · exact t33
      · exact t34
      · exact t35
      · exact t36)
    rw [hA]
    exact ⟨hR x v16 v17 v24 v25 v32 v33 q⟩
end Go.Proofs.Ytedafbbpcpebbaa
