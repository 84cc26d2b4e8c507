/- Convert: what the program returns. -/
import Derived.Test.YtdempklpmggdoaaGdad0de17
import Derived.Test.YtdempklpmggdoaaG817588fc
import Derived.Test.YtdempklpmggdoaaGb30e3c1a
namespace Go.Proofs.Ytdempklpmggdoaa
open Go.RowKit
set_option linter.unusedVariables false
set_option linter.unusedSimpArgs false

structure Box3 (x : World) (V : Nat) : Prop where
  c0 : x.cell? ⟨V, 0, none⟩ = some (.int .u32 0)
  c1 : x.cell? ⟨V, 1, none⟩ = some (.int .u32 0)
  c2 : x.cell? ⟨V, 2, none⟩ = some (.int .u32 0)
  f : ∀ j, x.frozen? ⟨V, j, none⟩ = false
theorem run_build3 {ρ : Operand → Value} {x : World} {d : Option Tmp} {ty : TypeId} {ps : String} {af : Array Edge} {g : Option (Nat × Bool)} {j k l : Nat} {a b c : Nat} (h : ρ (.tmp j) = .int .u32 (a : Nat)) (h' : ρ (.tmp k) = .int .u32 (b : Nat)) (h2 : ρ (.tmp l) = .int .u32 (c : Nat)) : (execOp ρ { dst := d, op := .build 89 #[(0, .tmp j), (1, .tmp k), (2, .tmp l)], type := ty, pos := ps, after := af, guard := g }).run Try.prog x = .ok (.value (a3 a b c)) x := by
  simp [execOp, h, h', h2, go_sem, a3]
theorem run_mkf {ρ : Operand → Value} {x : World} {d : Option Tmp} {ty : TypeId} {ps : String} {af : Array Edge} {g : Option (Nat × Bool)} {j : Nat} {v : Value} (h : ρ (.tmp j) = v) : (execOp ρ { dst := d, op := .makeFunc (.method "halide/space.fromRGB") #[.tmp j] #[], type := ty, pos := ps, after := af, guard := g }).run Try.prog x = .ok (.value (.func (.method "halide/space.fromRGB") #[v] #[])) x := by
  simp [execOp, h, go_sem, Instr.makeFunc]
theorem run_nilc {ρ : Operand → Value} {x : World} {d : Option Tmp} {ty : TypeId} {ps : String} {af : Array Edge} {g : Option (Nat × Bool)} {j : Nat} {t2 : TypeId} {v : Value} (h : ρ (.tmp j) = .func (.method "halide/space.fromRGB") #[.iface t2 v] #[]) (hn : ∀ x : World, (nilAhead 245 t2 v "halide/space.fromRGB").run Try.prog x = .ok (some false) x) : (execOp ρ { dst := d, op := .nilCheck (.tmp j), type := ty, pos := ps, after := af, guard := g }).run Try.prog x = .ok (.value (.func (.method "halide/space.fromRGB") #[.iface t2 v] #[])) x := by
  simp [execOp, h, go_sem, hn]
theorem run_inv {ρ : Operand → Value} {x : World} {d : Option Tmp} {ty : TypeId} {ps : String} {af : Array Edge} {g : Option (Nat × Bool)} {j f : Nat} {tt : TypeId} {vv : Value} {name : String} {args : Array Operand} {at' : Array TypeId} {vs : Value} (hr : ρ (.tmp j) = .iface tt vv)
    (hm : ∀ x : World, (method 245 tt vv name).run Try.prog x = .ok (f, vv) x) (hen : ∀ (args : Array Value) (x : World), (callFunc f args).run Try.prog x = .ok (.enter f args) x) (h : args.map ρ = #[vs]) :
    (execOp ρ { dst := d, op := .call { callee := .invoke (.tmp j) name, args := args, argTypes := at' }, type := ty, pos := ps, after := af, guard := g }).run Try.prog x = .ok (.enter f #[vv, vs]) x := by
  simp [execOp, resolve, invoke, callMethod, h, hr, hm, hen, go_sem]
theorem run_put3 {ρ : Operand → Value} {x : World} {ty : TypeId} {ps : String} {af : Array Edge} {g : Option (Nat × Bool)} {j k : Nat} {V' : Nat} {a b c : Nat} (h : ρ (.tmp j) = .pointer (some ⟨V', 0, none⟩)) (h' : ρ (.tmp k) = .agg #[.int .u32 (a : Nat), .int .u32 (b : Nat), .int .u32 (c : Nat)]) (bx : Box3 x V') : (execOp ρ { dst := none, op := .store 89 (.tmp j) (.tmp k), type := ty, pos := ps, after := af, guard := g }).run Try.prog x = .ok .skip (((x.setCell ⟨V', 0, none⟩ (.int .u32 (a : Nat))).setCell ⟨V', 1, none⟩ (.int .u32 (b : Nat))).setCell ⟨V', 2, none⟩ (.int .u32 (c : Nat))) := by
  have c0 := bx.c0
  have c1 := bx.c1
  have c2 := bx.c2
  have ff := bx.f
  simp [execOp, h, h', go_sem, c0, c1, c2, ff]
theorem yld_invoke {R : Exit → Act → World → Prop} {a : Act} {x : World} {t : Nat} {G : Value → World → Prop} {ty : TypeId} {ps : String} {af : Array Edge} {g : Option (Nat × Bool)} {j f : Nat} {tt : TypeId} {vv : Value} {name : String} {args : Array Operand} {at' : Array TypeId} {vs : Value} (hr : a.eval (.tmp j) = .iface tt vv)
    (hm : ∀ x : World, (method 245 tt vv name).run Try.prog x = .ok (f, vv) x) (hen : ∀ (args : Array Value) (x : World), (callFunc f args).run Try.prog x = .ok (.enter f args) x) (h : args.map a.eval = #[vs])
    (hc : Calls Try.prog f #[vv, vs] x fun e x' => ∃ u, e = .returned u ∧ Q x x' ∧ G u x') : Yld Try.prog R { dst := some t, op := .call { callee := .invoke (.tmp j) name, args := args, argTypes := at' }, type := ty, pos := ps, after := af, guard := g } a x t G := ⟨by
  unfold Oper.wp
  rw [run_inv hr hm hen h, Oper.upon_enter]
  refine hc.mono ?_
  rintro e x' ⟨u, rfl, q, hg⟩
  exact ⟨u, rfl, q, hg⟩⟩
def zero3 : Obj := .cells #[.int .u32 0, .int .u32 0, .int .u32 0] 89
theorem run_new3 {ρ : Operand → Value} {x : World} {d : Option Tmp} {ty : TypeId} {ps : String} {af : Array Edge} {g : Option (Nat × Bool)} : (execOp ρ { dst := d, op := .alloc 89, type := ty, pos := ps, after := af, guard := g }).run Try.prog x = .ok (.value (ptrV x.heap.size)) (x.alloc zero3) := by
  simp [execOp, go_sem, zero3, ptrV]
theorem Box3.next {x x' : World} {V : Nat} (h : Box3 x V) (q : Q x x') : Box3 x' V := ⟨q.cell h.c0, q.cell h.c1, q.cell h.c2, fun j => (q.2 _).trans (h.f j)⟩
theorem new3 (x : World) : Box3 (x.alloc zero3) x.heap.size := ⟨by simp [go_sem, zero3], by simp [go_sem, zero3], by simp [go_sem, zero3], fun j => by simp [go_sem, zero3]⟩
def boxT (lo : Nat) : Spec := ⟨fun v x => ∃ V, v = ptrV V ∧ lo ≤ V ∧ Box3 x V, fun ⟨V, h1, h2, h3⟩ q => ⟨V, h1, h2, h3.next q⟩⟩
def oCv_0 : Oper := { dst := some 37, op := .move (.tmp 15), type := 86, pos := "space.go:52", after := #[], guard := none }
def oCv_1 : Oper := { dst := some 38, op := .move (.tmp 14), type := 86, pos := "space.go:52", after := #[], guard := none }
def oCv_2 : Oper := { dst := some 39, op := .move (.tmp 2), type := 27, pos := "space.go:52", after := #[], guard := none }
def oCv_3 : Oper := { dst := some 40, op := .move (.tmp 3), type := 27, pos := "space.go:52", after := #[], guard := none }
def oCv_4 : Oper := { dst := some 41, op := .move (.tmp 4), type := 27, pos := "space.go:52", after := #[], guard := none }
def oCv_5 : Oper := { dst := some 42, op := .build 89 #[(0, .tmp 39), (1, .tmp 40), (2, .tmp 41)], type := 89, pos := "space.go:52", after := #[⟨2, .data⟩, ⟨3, .data⟩, ⟨4, .data⟩], guard := none }
def oCv_6 : Oper := { dst := some 43, op := .call { callee := .invoke (.tmp 38) "halide/space.toRGB", args := #[.tmp 42], argTypes := #[89] }, type := 89, pos := "space.go:52", after := #[⟨1, .data⟩, ⟨5, .data⟩], guard := none }
def oCv_7 : Oper := { dst := some 44, op := .makeFunc (.method "halide/space.fromRGB") #[.tmp 37] #[], type := 90, pos := "space.go:52", after := #[⟨0, .data⟩], guard := none }
def oCv_8 : Oper := { dst := some 45, op := .nilCheck (.tmp 44), type := 90, pos := "space.go:52", after := #[⟨7, .data⟩], guard := none }
def oCv_9 : Oper := { dst := some 46, op := .move (.tmp 37), type := 86, pos := "space.go:52", after := #[⟨0, .data⟩, ⟨7, .data⟩, ⟨8, .data⟩], guard := none }
def oCv_10 : Oper := { dst := some 47, op := .call { callee := .invoke (.tmp 46) "halide/space.fromRGB", args := #[.tmp 43], argTypes := #[89] }, type := 89, pos := "space.go:52", after := #[⟨9, .data⟩, ⟨6, .data⟩, ⟨6, .chain⟩], guard := none }
def oCv_11 : Oper := { dst := some 16, op := .alloc 89, type := 0, pos := "space.go:52", after := #[], guard := none }
def oCv_12 : Oper := { dst := none, op := .store 89 (.tmp 16) (.tmp 47), type := 0, pos := "space.go:52", after := #[⟨11, .data⟩, ⟨10, .data⟩, ⟨10, .chain⟩, ⟨0, .phase⟩, ⟨1, .phase⟩, ⟨2, .phase⟩, ⟨3, .phase⟩, ⟨4, .phase⟩, ⟨5, .phase⟩, ⟨6, .phase⟩, ⟨7, .phase⟩, ⟨8, .phase⟩, ⟨9, .phase⟩, ⟨10, .phase⟩, ⟨11, .phase⟩], guard := none }
def opsCv : List Oper := [oCv_0, oCv_1, oCv_2, oCv_3, oCv_4, oCv_5, oCv_6, oCv_7, oCv_8, oCv_9, oCv_10, oCv_11, oCv_12]
def sCv : List Nat := [37, 38, 39, 40, 41, 42, 43, 44, 45, 46, 47, 16]
def spCv (A B C X Y Z U V W ta tb fa fb lo : Nat) : List Spec := [spV (.iface tb (.agg #[])), spV (.iface ta (.agg #[])), spV (.int .u32 (A : Nat)), spV (.int .u32 (B : Nat)), spV (.int .u32 (C : Nat)), spV (a3 A B C), spV (a3 X Y Z), spV (.func (.method "halide/space.fromRGB") #[.iface tb (.agg #[])] #[]), spV (.func (.method "halide/space.fromRGB") #[.iface tb (.agg #[])] #[]), spV (.iface tb (.agg #[])), spV (a3 U V W), boxT lo]
structure EnvCv (a0 : Act) (w : World) (A B C X Y Z U V W ta tb fa fb lo : Nat) : Prop where
  h15 : a0.tmps[15]? = some (.iface tb (.agg #[]))
  h14 : a0.tmps[14]? = some (.iface ta (.agg #[]))
  h2 : a0.tmps[2]? = some (.int .u32 (A : Nat))
  h3 : a0.tmps[3]? = some (.int .u32 (B : Nat))
  h4 : a0.tmps[4]? = some (.int .u32 (C : Nat))
  m1 : ∀ x : World, (method 245 ta (.agg #[]) "halide/space.toRGB").run Try.prog x = .ok (fa, .agg #[]) x
  m2 : ∀ x : World, (method 245 tb (.agg #[]) "halide/space.fromRGB").run Try.prog x = .ok (fb, .agg #[]) x
  n1 : ∀ (args : Array Value) (x : World), (callFunc fa args).run Try.prog x = .ok (.enter fa args) x
  n2 : ∀ (args : Array Value) (x : World), (callFunc fb args).run Try.prog x = .ok (.enter fb args) x
  c1 : ∀ x : World, Calls Try.prog fa #[.agg #[], a3 A B C] x fun e x' => e = .returned (a3 X Y Z) ∧ Q x x'
  c2 : ∀ x : World, Calls Try.prog fb #[.agg #[], a3 X Y Z] x fun e x' => e = .returned (a3 U V W) ∧ Q x x'
  na : ∀ x : World, (nilAhead 245 tb (.agg #[]) "halide/space.fromRGB").run Try.prog x = .ok (some false) x
  hlo : lo ≤ w.heap.size
theorem yCv_0 {a0 : Act} {w : World} {A B C X Y Z U V W ta tb fa fb lo : Nat} (E : EnvCv a0 w A B C X Y Z U V W ta tb fa fb lo) {R : Exit → Act → World → Prop} {a : Act} {x : World} (q : Q w x) (oth : ∀ j, j ∉ sCv → a.tmps[j]? = a0.tmps[j]?) (dep : ∀ ed ∈ oCv_0.after, Region.binds .any ed = true → ∀ t', sCv[ed.on]? = some t' → ∃ v, a.tmps[t']? = some v ∧ specAt (spCv A B C X Y Z U V W ta tb fa fb lo) ed.on v x) : Yld Try.prog R oCv_0 a x 37 (fun v x' => specAt (spCv A B C X Y Z U V W ta tb fa fb lo) 0 v x' ∧ (0 ∈ ([] : List Nat) → v = ptrV x.heap.size)) := by
  exact yld_move ((oth 15 (by decide)).trans E.h15) ⟨rfl, fun h => absurd h (by decide)⟩
theorem yCv_1 {a0 : Act} {w : World} {A B C X Y Z U V W ta tb fa fb lo : Nat} (E : EnvCv a0 w A B C X Y Z U V W ta tb fa fb lo) {R : Exit → Act → World → Prop} {a : Act} {x : World} (q : Q w x) (oth : ∀ j, j ∉ sCv → a.tmps[j]? = a0.tmps[j]?) (dep : ∀ ed ∈ oCv_1.after, Region.binds .any ed = true → ∀ t', sCv[ed.on]? = some t' → ∃ v, a.tmps[t']? = some v ∧ specAt (spCv A B C X Y Z U V W ta tb fa fb lo) ed.on v x) : Yld Try.prog R oCv_1 a x 38 (fun v x' => specAt (spCv A B C X Y Z U V W ta tb fa fb lo) 1 v x' ∧ (1 ∈ ([] : List Nat) → v = ptrV x.heap.size)) := by
  exact yld_move ((oth 14 (by decide)).trans E.h14) ⟨rfl, fun h => absurd h (by decide)⟩
theorem yCv_2 {a0 : Act} {w : World} {A B C X Y Z U V W ta tb fa fb lo : Nat} (E : EnvCv a0 w A B C X Y Z U V W ta tb fa fb lo) {R : Exit → Act → World → Prop} {a : Act} {x : World} (q : Q w x) (oth : ∀ j, j ∉ sCv → a.tmps[j]? = a0.tmps[j]?) (dep : ∀ ed ∈ oCv_2.after, Region.binds .any ed = true → ∀ t', sCv[ed.on]? = some t' → ∃ v, a.tmps[t']? = some v ∧ specAt (spCv A B C X Y Z U V W ta tb fa fb lo) ed.on v x) : Yld Try.prog R oCv_2 a x 39 (fun v x' => specAt (spCv A B C X Y Z U V W ta tb fa fb lo) 2 v x' ∧ (2 ∈ ([] : List Nat) → v = ptrV x.heap.size)) := by
  exact yld_move ((oth 2 (by decide)).trans E.h2) ⟨rfl, fun h => absurd h (by decide)⟩
theorem yCv_3 {a0 : Act} {w : World} {A B C X Y Z U V W ta tb fa fb lo : Nat} (E : EnvCv a0 w A B C X Y Z U V W ta tb fa fb lo) {R : Exit → Act → World → Prop} {a : Act} {x : World} (q : Q w x) (oth : ∀ j, j ∉ sCv → a.tmps[j]? = a0.tmps[j]?) (dep : ∀ ed ∈ oCv_3.after, Region.binds .any ed = true → ∀ t', sCv[ed.on]? = some t' → ∃ v, a.tmps[t']? = some v ∧ specAt (spCv A B C X Y Z U V W ta tb fa fb lo) ed.on v x) : Yld Try.prog R oCv_3 a x 40 (fun v x' => specAt (spCv A B C X Y Z U V W ta tb fa fb lo) 3 v x' ∧ (3 ∈ ([] : List Nat) → v = ptrV x.heap.size)) := by
  exact yld_move ((oth 3 (by decide)).trans E.h3) ⟨rfl, fun h => absurd h (by decide)⟩
theorem yCv_4 {a0 : Act} {w : World} {A B C X Y Z U V W ta tb fa fb lo : Nat} (E : EnvCv a0 w A B C X Y Z U V W ta tb fa fb lo) {R : Exit → Act → World → Prop} {a : Act} {x : World} (q : Q w x) (oth : ∀ j, j ∉ sCv → a.tmps[j]? = a0.tmps[j]?) (dep : ∀ ed ∈ oCv_4.after, Region.binds .any ed = true → ∀ t', sCv[ed.on]? = some t' → ∃ v, a.tmps[t']? = some v ∧ specAt (spCv A B C X Y Z U V W ta tb fa fb lo) ed.on v x) : Yld Try.prog R oCv_4 a x 41 (fun v x' => specAt (spCv A B C X Y Z U V W ta tb fa fb lo) 4 v x' ∧ (4 ∈ ([] : List Nat) → v = ptrV x.heap.size)) := by
  exact yld_move ((oth 4 (by decide)).trans E.h4) ⟨rfl, fun h => absurd h (by decide)⟩
theorem yCv_5 {a0 : Act} {w : World} {A B C X Y Z U V W ta tb fa fb lo : Nat} (E : EnvCv a0 w A B C X Y Z U V W ta tb fa fb lo) {R : Exit → Act → World → Prop} {a : Act} {x : World} (q : Q w x) (oth : ∀ j, j ∉ sCv → a.tmps[j]? = a0.tmps[j]?) (dep : ∀ ed ∈ oCv_5.after, Region.binds .any ed = true → ∀ t', sCv[ed.on]? = some t' → ∃ v, a.tmps[t']? = some v ∧ specAt (spCv A B C X Y Z U V W ta tb fa fb lo) ed.on v x) : Yld Try.prog R oCv_5 a x 42 (fun v x' => specAt (spCv A B C X Y Z U V W ta tb fa fb lo) 5 v x' ∧ (5 ∈ ([] : List Nat) → v = ptrV x.heap.size)) := by
  obtain ⟨v2, t2, f2⟩ := dep ⟨2, .data⟩ (by simp [oCv_5]) rfl 39 rfl
  have f2 : v2 = (.int .u32 (A : Nat)) := f2
  subst f2
  obtain ⟨v3, t3, f3⟩ := dep ⟨3, .data⟩ (by simp [oCv_5]) rfl 40 rfl
  have f3 : v3 = (.int .u32 (B : Nat)) := f3
  subst f3
  obtain ⟨v4, t4, f4⟩ := dep ⟨4, .data⟩ (by simp [oCv_5]) rfl 41 rfl
  have f4 : v4 = (.int .u32 (C : Nat)) := f4
  subst f4
  exact yld_run (x' := x) rfl (run_build3 (tmp_eval t2) (tmp_eval t3) (tmp_eval t4)) (Q.refl x) ⟨rfl, fun h => absurd h (by decide)⟩
theorem yCv_6 {a0 : Act} {w : World} {A B C X Y Z U V W ta tb fa fb lo : Nat} (E : EnvCv a0 w A B C X Y Z U V W ta tb fa fb lo) {R : Exit → Act → World → Prop} {a : Act} {x : World} (q : Q w x) (oth : ∀ j, j ∉ sCv → a.tmps[j]? = a0.tmps[j]?) (dep : ∀ ed ∈ oCv_6.after, Region.binds .any ed = true → ∀ t', sCv[ed.on]? = some t' → ∃ v, a.tmps[t']? = some v ∧ specAt (spCv A B C X Y Z U V W ta tb fa fb lo) ed.on v x) : Yld Try.prog R oCv_6 a x 43 (fun v x' => specAt (spCv A B C X Y Z U V W ta tb fa fb lo) 6 v x' ∧ (6 ∈ ([] : List Nat) → v = ptrV x.heap.size)) := by
  obtain ⟨v1, t1, f1⟩ := dep ⟨1, .data⟩ (by simp [oCv_6]) rfl 38 rfl
  have f1 : v1 = (.iface ta (.agg #[])) := f1
  subst f1
  obtain ⟨v5, t5, f5⟩ := dep ⟨5, .data⟩ (by simp [oCv_6]) rfl 42 rfl
  have f5 : v5 = (a3 A B C) := f5
  subst f5
  refine yld_invoke (tmp_eval t1) E.m1 E.n1 (args1 t5) ((E.c1 x).mono ?_)
  rintro u x' ⟨rfl, q'⟩
  exact ⟨_, rfl, q', rfl, fun h => absurd h (by decide)⟩
theorem yCv_7 {a0 : Act} {w : World} {A B C X Y Z U V W ta tb fa fb lo : Nat} (E : EnvCv a0 w A B C X Y Z U V W ta tb fa fb lo) {R : Exit → Act → World → Prop} {a : Act} {x : World} (q : Q w x) (oth : ∀ j, j ∉ sCv → a.tmps[j]? = a0.tmps[j]?) (dep : ∀ ed ∈ oCv_7.after, Region.binds .any ed = true → ∀ t', sCv[ed.on]? = some t' → ∃ v, a.tmps[t']? = some v ∧ specAt (spCv A B C X Y Z U V W ta tb fa fb lo) ed.on v x) : Yld Try.prog R oCv_7 a x 44 (fun v x' => specAt (spCv A B C X Y Z U V W ta tb fa fb lo) 7 v x' ∧ (7 ∈ ([] : List Nat) → v = ptrV x.heap.size)) := by
  obtain ⟨v0, t0, f0⟩ := dep ⟨0, .data⟩ (by simp [oCv_7]) rfl 37 rfl
  have f0 : v0 = (.iface tb (.agg #[])) := f0
  subst f0
  exact yld_run (x' := x) rfl (run_mkf (tmp_eval t0)) (Q.refl x) ⟨rfl, fun h => absurd h (by decide)⟩
theorem yCv_8 {a0 : Act} {w : World} {A B C X Y Z U V W ta tb fa fb lo : Nat} (E : EnvCv a0 w A B C X Y Z U V W ta tb fa fb lo) {R : Exit → Act → World → Prop} {a : Act} {x : World} (q : Q w x) (oth : ∀ j, j ∉ sCv → a.tmps[j]? = a0.tmps[j]?) (dep : ∀ ed ∈ oCv_8.after, Region.binds .any ed = true → ∀ t', sCv[ed.on]? = some t' → ∃ v, a.tmps[t']? = some v ∧ specAt (spCv A B C X Y Z U V W ta tb fa fb lo) ed.on v x) : Yld Try.prog R oCv_8 a x 45 (fun v x' => specAt (spCv A B C X Y Z U V W ta tb fa fb lo) 8 v x' ∧ (8 ∈ ([] : List Nat) → v = ptrV x.heap.size)) := by
  obtain ⟨v7, t7, f7⟩ := dep ⟨7, .data⟩ (by simp [oCv_8]) rfl 44 rfl
  have f7 : v7 = (.func (.method "halide/space.fromRGB") #[.iface tb (.agg #[])] #[]) := f7
  subst f7
  exact yld_run (x' := x) rfl (run_nilc (tmp_eval t7) E.na) (Q.refl x) ⟨rfl, fun h => absurd h (by decide)⟩
theorem yCv_9 {a0 : Act} {w : World} {A B C X Y Z U V W ta tb fa fb lo : Nat} (E : EnvCv a0 w A B C X Y Z U V W ta tb fa fb lo) {R : Exit → Act → World → Prop} {a : Act} {x : World} (q : Q w x) (oth : ∀ j, j ∉ sCv → a.tmps[j]? = a0.tmps[j]?) (dep : ∀ ed ∈ oCv_9.after, Region.binds .any ed = true → ∀ t', sCv[ed.on]? = some t' → ∃ v, a.tmps[t']? = some v ∧ specAt (spCv A B C X Y Z U V W ta tb fa fb lo) ed.on v x) : Yld Try.prog R oCv_9 a x 46 (fun v x' => specAt (spCv A B C X Y Z U V W ta tb fa fb lo) 9 v x' ∧ (9 ∈ ([] : List Nat) → v = ptrV x.heap.size)) := by
  obtain ⟨v0, t0, f0⟩ := dep ⟨0, .data⟩ (by simp [oCv_9]) rfl 37 rfl
  have f0 : v0 = (.iface tb (.agg #[])) := f0
  subst f0
  exact yld_move t0 ⟨rfl, fun h => absurd h (by decide)⟩
theorem yCv_10 {a0 : Act} {w : World} {A B C X Y Z U V W ta tb fa fb lo : Nat} (E : EnvCv a0 w A B C X Y Z U V W ta tb fa fb lo) {R : Exit → Act → World → Prop} {a : Act} {x : World} (q : Q w x) (oth : ∀ j, j ∉ sCv → a.tmps[j]? = a0.tmps[j]?) (dep : ∀ ed ∈ oCv_10.after, Region.binds .any ed = true → ∀ t', sCv[ed.on]? = some t' → ∃ v, a.tmps[t']? = some v ∧ specAt (spCv A B C X Y Z U V W ta tb fa fb lo) ed.on v x) : Yld Try.prog R oCv_10 a x 47 (fun v x' => specAt (spCv A B C X Y Z U V W ta tb fa fb lo) 10 v x' ∧ (10 ∈ ([] : List Nat) → v = ptrV x.heap.size)) := by
  obtain ⟨v9, t9, f9⟩ := dep ⟨9, .data⟩ (by simp [oCv_10]) rfl 46 rfl
  have f9 : v9 = (.iface tb (.agg #[])) := f9
  subst f9
  obtain ⟨v6, t6, f6⟩ := dep ⟨6, .data⟩ (by simp [oCv_10]) rfl 43 rfl
  have f6 : v6 = (a3 X Y Z) := f6
  subst f6
  refine yld_invoke (tmp_eval t9) E.m2 E.n2 (args1 t6) ((E.c2 x).mono ?_)
  rintro u x' ⟨rfl, q'⟩
  exact ⟨_, rfl, q', rfl, fun h => absurd h (by decide)⟩
theorem yCv_11 {a0 : Act} {w : World} {A B C X Y Z U V W ta tb fa fb lo : Nat} (E : EnvCv a0 w A B C X Y Z U V W ta tb fa fb lo) {R : Exit → Act → World → Prop} {a : Act} {x : World} (q : Q w x) (oth : ∀ j, j ∉ sCv → a.tmps[j]? = a0.tmps[j]?) (dep : ∀ ed ∈ oCv_11.after, Region.binds .any ed = true → ∀ t', sCv[ed.on]? = some t' → ∃ v, a.tmps[t']? = some v ∧ specAt (spCv A B C X Y Z U V W ta tb fa fb lo) ed.on v x) : Yld Try.prog R oCv_11 a x 16 (fun v x' => specAt (spCv A B C X Y Z U V W ta tb fa fb lo) 11 v x' ∧ (11 ∈ ([] : List Nat) → v = ptrV x.heap.size)) := by
  exact yld_run (x' := x.alloc zero3) rfl run_new3 ((Q.refl x).cells _ _) ⟨⟨x.heap.size, rfl, Nat.le_trans E.hlo q.1.size, new3 x⟩, fun h => absurd h (by decide)⟩
theorem hopCv {a0 : Act} {w : World} {A B C X Y Z U V W ta tb fa fb lo : Nat} (E : EnvCv a0 w A B C X Y Z U V W ta tb fa fb lo) {R : Exit → Act → World → Prop} : ∀ (i t : Nat) (o : Oper) (a : Act) (x : World), i < 12 → sCv[i]? = some t → opsCv[i]? = some o → Q w x → (∀ j, j ∉ sCv → a.tmps[j]? = a0.tmps[j]?) → (∀ ed ∈ o.after, Region.binds .any ed = true → ∀ t', sCv[ed.on]? = some t' → ∃ v, a.tmps[t']? = some v ∧ specAt (spCv A B C X Y Z U V W ta tb fa fb lo) ed.on v x) → Yld Try.prog R o a x t (fun v x' => specAt (spCv A B C X Y Z U V W ta tb fa fb lo) i v x' ∧ (i ∈ ([] : List Nat) → v = ptrV x.heap.size))
  | 0, t, o, a, x, hi, ht, ho, q, oth, dep => by
    have e1 : oCv_0 = o := Option.some.inj ho
    have e2 : 37 = t := Option.some.inj ht
    subst e1 e2
    exact yCv_0 E q oth dep
  | 1, t, o, a, x, hi, ht, ho, q, oth, dep => by
    have e1 : oCv_1 = o := Option.some.inj ho
    have e2 : 38 = t := Option.some.inj ht
    subst e1 e2
    exact yCv_1 E q oth dep
  | 2, t, o, a, x, hi, ht, ho, q, oth, dep => by
    have e1 : oCv_2 = o := Option.some.inj ho
    have e2 : 39 = t := Option.some.inj ht
    subst e1 e2
    exact yCv_2 E q oth dep
  | 3, t, o, a, x, hi, ht, ho, q, oth, dep => by
    have e1 : oCv_3 = o := Option.some.inj ho
    have e2 : 40 = t := Option.some.inj ht
    subst e1 e2
    exact yCv_3 E q oth dep
  | 4, t, o, a, x, hi, ht, ho, q, oth, dep => by
    have e1 : oCv_4 = o := Option.some.inj ho
    have e2 : 41 = t := Option.some.inj ht
    subst e1 e2
    exact yCv_4 E q oth dep
  | 5, t, o, a, x, hi, ht, ho, q, oth, dep => by
    have e1 : oCv_5 = o := Option.some.inj ho
    have e2 : 42 = t := Option.some.inj ht
    subst e1 e2
    exact yCv_5 E q oth dep
  | 6, t, o, a, x, hi, ht, ho, q, oth, dep => by
    have e1 : oCv_6 = o := Option.some.inj ho
    have e2 : 43 = t := Option.some.inj ht
    subst e1 e2
    exact yCv_6 E q oth dep
  | 7, t, o, a, x, hi, ht, ho, q, oth, dep => by
    have e1 : oCv_7 = o := Option.some.inj ho
    have e2 : 44 = t := Option.some.inj ht
    subst e1 e2
    exact yCv_7 E q oth dep
  | 8, t, o, a, x, hi, ht, ho, q, oth, dep => by
    have e1 : oCv_8 = o := Option.some.inj ho
    have e2 : 45 = t := Option.some.inj ht
    subst e1 e2
    exact yCv_8 E q oth dep
  | 9, t, o, a, x, hi, ht, ho, q, oth, dep => by
    have e1 : oCv_9 = o := Option.some.inj ho
    have e2 : 46 = t := Option.some.inj ht
    subst e1 e2
    exact yCv_9 E q oth dep
  | 10, t, o, a, x, hi, ht, ho, q, oth, dep => by
    have e1 : oCv_10 = o := Option.some.inj ho
    have e2 : 47 = t := Option.some.inj ht
    subst e1 e2
    exact yCv_10 E q oth dep
  | 11, t, o, a, x, hi, ht, ho, q, oth, dep => by
    have e1 : oCv_11 = o := Option.some.inj ho
    have e2 : 16 = t := Option.some.inj ht
    subst e1 e2
    exact yCv_11 E q oth dep
  | i + 12, t, o, a, x, hi, ht, ho, q, oth, dep => absurd hi (by omega)
theorem regionCv {id : Nat} {l : List Oper} {R : Exit → Act → World → Prop} {a0 : Act} {w : World} {A B C X Y Z U V W ta tb fa fb lo : Nat} (hl : l = opsCv) (hsz : a0.tmps.size = 54) (E : EnvCv a0 w A B C X Y Z U V W ta tb fa fb lo)
    (hR : ∀ x V', lo ≤ V' → Q w x → Box3 x V' → R .normal (putAll a0 [(37, (.iface tb (.agg #[]))), (38, (.iface ta (.agg #[]))), (39, (.int .u32 (A : Nat))), (40, (.int .u32 (B : Nat))), (41, (.int .u32 (C : Nat))), (42, (a3 A B C)), (43, (a3 X Y Z)), (44, (.func (.method "halide/space.fromRGB") #[.iface tb (.agg #[])] #[])), (45, (.func (.method "halide/space.fromRGB") #[.iface tb (.agg #[])] #[])), (46, (.iface tb (.agg #[]))), (47, (a3 U V W)), (16, (ptrV V'))]) (((x.setCell ⟨V', 0, none⟩ (.int .u32 (U : Nat))).setCell ⟨V', 1, none⟩ (.int .u32 (V : Nat))).setCell ⟨V', 2, none⟩ (.int .u32 (W : Nat)))) :
    (Code.region id l.toArray true).wp Try.prog R a0 w := by
  subst hl
  refine wp_region_facts 12 sCv (specAt (spCv A B C X Y Z U V W ta tb fa fb lo)) [] (by kernel_rfl) (by decide +kernel) (by decide) rfl (by decide) (fun t ht => ?_) specAt.next (fun i v x hi hf => by cases hi) (hopCv E) (fun a x q size defers other facts apart => ?_)
  · rw [hsz]
    revert t
    decide
  · obtain ⟨v0, t0, f0⟩ := facts 0 37 (by decide) rfl
    have f0 : v0 = (.iface tb (.agg #[])) := f0
    subst f0
    obtain ⟨v1, t1, f1⟩ := facts 1 38 (by decide) rfl
    have f1 : v1 = (.iface ta (.agg #[])) := f1
    subst f1
    obtain ⟨v2, t2, f2⟩ := facts 2 39 (by decide) rfl
    have f2 : v2 = (.int .u32 (A : Nat)) := f2
    subst f2
    obtain ⟨v3, t3, f3⟩ := facts 3 40 (by decide) rfl
    have f3 : v3 = (.int .u32 (B : Nat)) := f3
    subst f3
    obtain ⟨v4, t4, f4⟩ := facts 4 41 (by decide) rfl
    have f4 : v4 = (.int .u32 (C : Nat)) := f4
    subst f4
    obtain ⟨v5, t5, f5⟩ := facts 5 42 (by decide) rfl
    have f5 : v5 = (a3 A B C) := f5
    subst f5
    obtain ⟨v6, t6, f6⟩ := facts 6 43 (by decide) rfl
    have f6 : v6 = (a3 X Y Z) := f6
    subst f6
    obtain ⟨v7, t7, f7⟩ := facts 7 44 (by decide) rfl
    have f7 : v7 = (.func (.method "halide/space.fromRGB") #[.iface tb (.agg #[])] #[]) := f7
    subst f7
    obtain ⟨v8, t8, f8⟩ := facts 8 45 (by decide) rfl
    have f8 : v8 = (.func (.method "halide/space.fromRGB") #[.iface tb (.agg #[])] #[]) := f8
    subst f8
    obtain ⟨v9, t9, f9⟩ := facts 9 46 (by decide) rfl
    have f9 : v9 = (.iface tb (.agg #[])) := f9
    subst f9
    obtain ⟨v10, t10, f10⟩ := facts 10 47 (by decide) rfl
    have f10 : v10 = (a3 U V W) := f10
    subst f10
    obtain ⟨v11, t11, f11⟩ := facts 11 16 (by decide) rfl
    obtain ⟨V', rfl, hV, b⟩ := (show (boxT lo).p v11 x from f11)
    refine ⟨?_⟩
    show Oper.wp Try.prog oCv_12 a x (fun a' w' => R .normal a' w') R
    have e1 := tmp_eval t11
    have e2 := tmp_eval t10
    unfold ptrV at e1
    unfold a3 at e2
    unfold Oper.wp
    unfold oCv_12
    rw [run_put3 e1 e2 b]
    have hA := act_puts (a := a) (a0 := a0) [(37, (.iface tb (.agg #[]))), (38, (.iface ta (.agg #[]))), (39, (.int .u32 (A : Nat))), (40, (.int .u32 (B : Nat))), (41, (.int .u32 (C : Nat))), (42, (a3 A B C)), (43, (a3 X Y Z)), (44, (.func (.method "halide/space.fromRGB") #[.iface tb (.agg #[])] #[])), (45, (.func (.method "halide/space.fromRGB") #[.iface tb (.agg #[])] #[])), (46, (.iface tb (.agg #[]))), (47, (a3 U V W)), (16, (ptrV V'))] (by show [37, 38, 39, 40, 41, 42, 43, 44, 45, 46, 47, 16].Nodup; decide) size defers (fun j hj => other j (fun hk => hj hk)) (fun r hr => by
      simp only [List.mem_cons, List.not_mem_nil, or_false] at hr
      rcases hr with rfl | rfl | rfl | rfl | rfl | rfl | rfl | rfl | rfl | rfl | rfl | rfl
      · exact t0
      · exact t1
      · exact t2
      · exact t3
      · exact t4
      · exact t5
      · exact t6
      · exact t7
      · exact t8
      · exact t9
      · exact t10
      · exact t11)
    show R .normal a _
    rw [hA]
    exact hR x V' hV q b
def rg0 (r g b : Nat) : Nat := r
def rg1 (r g b : Nat) : Nat := g
def rg2 (r g b : Nat) : Nat := b
set_option maxHeartbeats 1000000 in
theorem gfrom_any (r g b : Nat) (hr : r < 4294967296) (hg : g < 4294967296) (hb : b < 4294967296) (w : World) : Calls Try.prog 97 #[.agg #[], .agg #[.int .u32 (r : Int), .int .u32 (g : Int), .int .u32 (b : Int)]] w fun e w' => e = .returned (a3 (rg0 r g b) (rg1 r g b) (rg2 r g b)) ∧ Q w w' := by
  go_enter Try.func97, Try.ntmps97
  go_wp2_with fail
  refine bodyPost_ret (v := a3 (rg0 r g b) (rg1 r g b) (rg2 r g b)) (by simp [results, Try.results97, go_sem, a3, rg0, rg1, rg2]) rfl ⟨rfl, ?_⟩
  exact (((Q.refl w).cells _ _).cells _ _).cells _ _
set_option maxHeartbeats 1000000 in
theorem gto_any (r g b : Nat) (hr : r < 4294967296) (hg : g < 4294967296) (hb : b < 4294967296) (w : World) : Calls Try.prog 98 #[.agg #[], .agg #[.int .u32 (r : Int), .int .u32 (g : Int), .int .u32 (b : Int)]] w fun e w' => e = .returned (a3 (rg0 r g b) (rg1 r g b) (rg2 r g b)) ∧ Q w w' := by
  go_enter Try.func98, Try.ntmps98
  go_wp2_with fail
  refine bodyPost_ret (v := a3 (rg0 r g b) (rg1 r g b) (rg2 r g b)) (by simp [results, Try.results98, go_sem, a3, rg0, rg1, rg2]) rfl ⟨rfl, ?_⟩
  exact (((Q.refl w).cells _ _).cells _ _).cells _ _
def ofx0 (r g b : Nat) : Nat := logV r
def ofx1 (r g b : Nat) : Nat := logV g
def ofx2 (r g b : Nat) : Nat := logV b
set_option maxHeartbeats 2000000 in
theorem ofrom_any (r g b : Nat) (hr : r < 4294967296) (hg : g < 4294967296) (hb : b < 4294967296) (w : World) : Calls Try.prog 103 #[.agg #[], .agg #[.int .u32 (r : Int), .int .u32 (g : Int), .int .u32 (b : Int)]] w fun e w' => e = .returned (a3 (ofx0 r g b) (ofx1 r g b) (ofx2 r g b)) ∧ Q w w' := by
  have KV : Hid (∀ (s : Nat) (h : s < 4294967296) (w : World), Calls Try.prog 105 #[.int .u32 s] w fun e w' => e = .returned (.int .u32 (logV s : Nat)) ∧ Q w w') := log_any
  go_enter Try.func103, Try.ntmps103
  go_wp2_with fail
  have hB : Hid (B3 w _ r g b) := b3_of w 102 r g b
  generalize (((w.alloc (Obj.cells #[] 102)).alloc (Obj.cells #[.int .u32 (r : Int), .int .u32 (g : Int), .int .u32 (b : Int)] 89)).alloc (Obj.cells #[.int .u32 0, .int .u32 0, .int .u32 0] 89)) = wz at hB ⊢
  have d0 := qw_cell hB.out.d0
  have d1 := qw_cell hB.out.d1
  have d2 := qw_cell hB.out.d2
  have n0 := qw_some wz
  refine wp_region_lastn 10 rfl _ rfl (by kernel_rfl) (by kernel_rfl) (by kernel_rfl) ?_
  simp only [List.take_succ_cons, List.take_zero]
  repeat (first | go_big_quiet_step (first | (go_at_call 105; exact calls_qw (KV.out _ (by assumption) _))) | quiet_step (first | (go_at_call 105; exact calls_qw (KV.out _ (by assumption) _))))
  refine wpQuiet_nil ?_
  intro nn K hK
  replace hB : Hid (B3 w nn.x r g b) := hB.out.next nn.q
  clear d0 d1 d2 n0 KV
  have hk0 := hB.out.k0
  have hk1 := hB.out.k1
  have hk2 := hB.out.k2
  have hf0 := hB.out.f0
  have hf1 := hB.out.f1
  have hf2 := hB.out.f2
  go_wp2_with fail
  refine bodyPost_ret (v := a3 (ofx0 r g b) (ofx1 r g b) (ofx2 r g b)) (by simp [results, Try.results103, go_sem, hk0, hk1, hk2, a3, ofx0, ofx1, ofx2]) rfl ⟨rfl, ?_⟩
  exact ((hB.out.q.set (by show _ ≤ w.heap.size + 1 + 1; omega) _).set (by show _ ≤ w.heap.size + 1 + 1; omega) _).set (by show _ ≤ w.heap.size + 1 + 1; omega) _
def otx0 (r g b : Nat) : Nat := expW r
def otx1 (r g b : Nat) : Nat := expW g
def otx2 (r g b : Nat) : Nat := expW b
set_option maxHeartbeats 2000000 in
theorem oto_any (r g b : Nat) (hr : r < 4294967296) (hg : g < 4294967296) (hb : b < 4294967296) (w : World) : Calls Try.prog 104 #[.agg #[], .agg #[.int .u32 (r : Int), .int .u32 (g : Int), .int .u32 (b : Int)]] w fun e w' => e = .returned (a3 (otx0 r g b) (otx1 r g b) (otx2 r g b)) ∧ Q w w' := by
  have KV : Hid (∀ (s : Nat) (h : s < 4294967296) (w : World), Calls Try.prog 106 #[.int .u32 s] w fun e w' => e = .returned (.int .u32 (expW s : Nat)) ∧ Q w w') := exp_any
  go_enter Try.func104, Try.ntmps104
  go_wp2_with fail
  have hB : Hid (B3 w _ r g b) := b3_of w 102 r g b
  generalize (((w.alloc (Obj.cells #[] 102)).alloc (Obj.cells #[.int .u32 (r : Int), .int .u32 (g : Int), .int .u32 (b : Int)] 89)).alloc (Obj.cells #[.int .u32 0, .int .u32 0, .int .u32 0] 89)) = wz at hB ⊢
  have d0 := qw_cell hB.out.d0
  have d1 := qw_cell hB.out.d1
  have d2 := qw_cell hB.out.d2
  have n0 := qw_some wz
  refine wp_region_lastn 10 rfl _ rfl (by kernel_rfl) (by kernel_rfl) (by kernel_rfl) ?_
  simp only [List.take_succ_cons, List.take_zero]
  repeat (first | go_big_quiet_step (first | (go_at_call 106; exact calls_qw (KV.out _ (by assumption) _))) | quiet_step (first | (go_at_call 106; exact calls_qw (KV.out _ (by assumption) _))))
  refine wpQuiet_nil ?_
  intro nn K hK
  replace hB : Hid (B3 w nn.x r g b) := hB.out.next nn.q
  clear d0 d1 d2 n0 KV
  have hk0 := hB.out.k0
  have hk1 := hB.out.k1
  have hk2 := hB.out.k2
  have hf0 := hB.out.f0
  have hf1 := hB.out.f1
  have hf2 := hB.out.f2
  go_wp2_with fail
  refine bodyPost_ret (v := a3 (otx0 r g b) (otx1 r g b) (otx2 r g b)) (by simp [results, Try.results104, go_sem, hk0, hk1, hk2, a3, otx0, otx1, otx2]) rfl ⟨rfl, ?_⟩
  exact ((hB.out.q.set (by show _ ≤ w.heap.size + 1 + 1; omega) _).set (by show _ ≤ w.heap.size + 1 + 1; omega) _).set (by show _ ≤ w.heap.size + 1 + 1; omega) _
end Go.Proofs.Ytdempklpmggdoaa
/- Convert: spaces by number, and what Convert returns. -/
namespace Go.Proofs.Ytdempklpmggdoaa
open Go.RowKit
set_option linter.unusedVariables false
set_option linter.unusedSimpArgs false

/-- A space that RGB goes to and comes from. -/
structure Way (k : Int) (t fa fb : Nat) (X0 X1 X2 U0 U1 U2 : Nat → Nat → Nat → Nat) : Prop where
  sp : ∀ w : World, Calls Try.prog 44 #[.int .i64 k] w fun e w' => e = .returned (.iface t (.agg #[])) ∧ w' = w
  m1 : ∀ x : World, (method 245 t (.agg #[]) "halide/space.toRGB").run Try.prog x = .ok (fa, .agg #[]) x
  m2 : ∀ x : World, (method 245 t (.agg #[]) "halide/space.fromRGB").run Try.prog x = .ok (fb, .agg #[]) x
  n1 : ∀ (args : Array Value) (x : World), (callFunc fa args).run Try.prog x = .ok (.enter fa args) x
  n2 : ∀ (args : Array Value) (x : World), (callFunc fb args).run Try.prog x = .ok (.enter fb args) x
  c1 : ∀ (a b c : Nat) (ha : a < 4294967296) (hb : b < 4294967296) (hc : c < 4294967296) (x : World), Calls Try.prog fa #[.agg #[], a3 a b c] x fun e x' => e = .returned (a3 (X0 a b c) (X1 a b c) (X2 a b c)) ∧ Q x x'
  c2 : ∀ (a b c : Nat) (ha : a < 4294967296) (hb : b < 4294967296) (hc : c < 4294967296) (x : World), Calls Try.prog fb #[.agg #[], a3 a b c] x fun e x' => e = .returned (a3 (U0 a b c) (U1 a b c) (U2 a b c)) ∧ Q x x'
  na : ∀ x : World, (nilAhead 245 t (.agg #[]) "halide/space.fromRGB").run Try.prog x = .ok (some false) x
  lt : ∀ (a b c : Nat) (ha : a < 4294967296) (hb : b < 4294967296) (hc : c < 4294967296), X0 a b c < 4294967296 ∧ X1 a b c < 4294967296 ∧ X2 a b c < 4294967296
  ut : ∀ (a b c : Nat) (ha : a < 4294967296) (hb : b < 4294967296) (hc : c < 4294967296), U0 a b c < 4294967296 ∧ U1 a b c < 4294967296 ∧ U2 a b c < 4294967296
theorem narW_lt (x : Nat) : narW x < 4294967296 := toldD_lt _
theorem logV_lt (x : Nat) : logV x < 4294967296 := by
  unfold logV
  split
  · decide
  · split
    · decide
    · split
      · decide
      · exact narW_lt _
theorem expW_lt (y : Nat) : expW y < 4294967296 := by
  unfold expW
  split
  · decide
  · split
    · decide
    · split
      · decide
      · have := exp_int (y := y) (by omega) (by omega)
        unfold expP; omega
set_option maxHeartbeats 1000000 in
theorem spaceOf_1 (w : World) : Calls Try.prog 44 #[.int .i64 1] w fun e w' => e = .returned (.iface 100 (.agg #[])) ∧ w' = w := by
  go_enter Try.func44, Try.ntmps44
  go_wp2_with fail
  go_ret
  exact ⟨rfl, rfl⟩
theorem way_1 : Way 1 100 98 97 rg0 rg1 rg2 rg0 rg1 rg2 where
  sp := spaceOf_1
  m1 := fun _ => by kernel_rfl
  m2 := fun _ => by kernel_rfl
  n1 := enters_of Try.func98 (by kernel_rfl) rfl
  n2 := enters_of Try.func97 (by kernel_rfl) rfl
  c1 := fun a b c ha hb hc x => gto_any a b c ha hb hc x
  c2 := fun a b c ha hb hc x => gfrom_any a b c ha hb hc x
  na := fun _ => by kernel_rfl
  lt := fun a b c ha hb hc => ⟨ha, hb, hc⟩
  ut := fun a b c ha hb hc => ⟨ha, hb, hc⟩
set_option maxHeartbeats 1000000 in
theorem spaceOf_2 (w : World) : Calls Try.prog 44 #[.int .i64 2] w fun e w' => e = .returned (.iface 101 (.agg #[])) ∧ w' = w := by
  go_enter Try.func44, Try.ntmps44
  go_wp2_with fail
  go_ret
  exact ⟨rfl, rfl⟩
theorem way_2 : Way 2 101 100 99 rgb0 rgb1 rgb2 ycc0 ycc1 ycc2 where
  sp := spaceOf_2
  m1 := fun _ => by kernel_rfl
  m2 := fun _ => by kernel_rfl
  n1 := enters_of Try.func100 (by kernel_rfl) rfl
  n2 := enters_of Try.func99 (by kernel_rfl) rfl
  c1 := fun a b c ha hb hc x => yto_any a b c ha hb hc x
  c2 := fun a b c ha hb hc x => yfrom_any a b c ha hb hc x
  na := fun _ => by kernel_rfl
  lt := fun a b c ha hb hc => ⟨narW_lt _, narW_lt _, narW_lt _⟩
  ut := fun a b c ha hb hc => ⟨narW_lt _, narW_lt _, narW_lt _⟩
set_option maxHeartbeats 1000000 in
theorem spaceOf_3 (w : World) : Calls Try.prog 44 #[.int .i64 3] w fun e w' => e = .returned (.iface 102 (.agg #[])) ∧ w' = w := by
  go_enter Try.func44, Try.ntmps44
  go_wp2_with fail
  go_ret
  exact ⟨rfl, rfl⟩
theorem way_3 : Way 3 102 104 103 otx0 otx1 otx2 ofx0 ofx1 ofx2 where
  sp := spaceOf_3
  m1 := fun _ => by kernel_rfl
  m2 := fun _ => by kernel_rfl
  n1 := enters_of Try.func104 (by kernel_rfl) rfl
  n2 := enters_of Try.func103 (by kernel_rfl) rfl
  c1 := fun a b c ha hb hc x => oto_any a b c ha hb hc x
  c2 := fun a b c ha hb hc x => ofrom_any a b c ha hb hc x
  na := fun _ => by kernel_rfl
  lt := fun a b c ha hb hc => ⟨expW_lt _, expW_lt _, expW_lt _⟩
  ut := fun a b c ha hb hc => ⟨logV_lt _, logV_lt _, logV_lt _⟩
set_option maxHeartbeats 1000000 in
theorem spaceOf_4 (w : World) : Calls Try.prog 44 #[.int .i64 4] w fun e w' => e = .returned (.iface 103 (.agg #[])) ∧ w' = w := by
  go_enter Try.func44, Try.ntmps44
  go_wp2_with fail
  go_ret
  exact ⟨rfl, rfl⟩
theorem way_4 : Way 4 103 109 108 drop0 drop1 drop2 lift0 lift1 lift2 where
  sp := spaceOf_4
  m1 := fun _ => by kernel_rfl
  m2 := fun _ => by kernel_rfl
  n1 := enters_of Try.func109 (by kernel_rfl) rfl
  n2 := enters_of Try.func108 (by kernel_rfl) rfl
  c1 := fun a b c ha hb hc x => lto_any a b c ha hb hc x
  c2 := fun a b c ha hb hc x => lfrom_any a b c ha hb hc x
  na := fun _ => by kernel_rfl
  lt := fun a b c ha hb hc => ⟨fkeyN_lt (addN_lt _ _), fkeyN_lt (addN_lt _ _), fkeyN_lt (lesN_lt _ _)⟩
  ut := fun a b c ha hb hc => ⟨fkeyN_lt (addN_lt _ _), fkeyN_lt (addN_lt _ _), fkeyN_lt (addN_lt _ _)⟩
set_option maxHeartbeats 1000000 in
theorem spaceOf_no (k : Int) (h1 : k ≠ 1) (h2 : k ≠ 2) (h3 : k ≠ 3) (h4 : k ≠ 4) (w : World) : Calls Try.prog 44 #[.int .i64 k] w fun e w' => e = .returned .nilIface ∧ w' = w := by
  have e1 : (k == 1) = false := by rw [beq_eq_false_iff_ne]; exact h1
  have e2 : (k == 2) = false := by rw [beq_eq_false_iff_ne]; exact h2
  have e3 : (k == 3) = false := by rw [beq_eq_false_iff_ne]; exact h3
  have e4 : (k == 4) = false := by rw [beq_eq_false_iff_ne]; exact h4
  clear h1 h2 h3 h4
  go_enter Try.func44, Try.ntmps44
  go_wp2_with fail
  go_ret
  exact ⟨rfl, rfl⟩
set_option maxHeartbeats 1000000 in
theorem isspace_any (k : Int) (w : World) : Calls Try.prog 43 #[.int .i64 k] w fun e w' => e = .returned (.bool (decide (0 ≤ k ∧ k ≤ 4))) ∧ w' = w := by
  by_cases h : 0 ≤ k
  · by_cases g : k ≤ 4
    · rw [decide_eq_true ⟨h, g⟩]
      go_enter Try.func43, Try.ntmps43
      go_wp2_with fail
      go_ret
      exact ⟨rfl, rfl⟩
    · rw [decide_eq_false (fun x => g x.2)]
      have g' : decide (k ≤ 4) = false := decide_eq_false g
      go_enter Try.func43, Try.ntmps43
      go_wp2_with fail
      go_ret
      exact ⟨rfl, rfl⟩
  · rw [decide_eq_false (fun x => h x.1)]
    have g' : decide (0 ≤ k) = false := decide_eq_false h
    go_enter Try.func43, Try.ntmps43
    go_wp2_with fail
    go_ret
    exact ⟨rfl, rfl⟩
def t4 (x y z : Nat) (e : Int) : Value := .tuple #[.int .u32 (x : Nat), .int .u32 (y : Nat), .int .u32 (z : Nat), .int .i64 e]
set_option maxHeartbeats 1000000 in
theorem conv_same (k : Int) (h0 : 0 ≤ k) (h1 : k ≤ 4) (a b c : Nat) (w : World) : Calls Try.prog 22 #[.int .i64 k, .int .i64 k, .int .u32 (a : Int), .int .u32 (b : Int), .int .u32 (c : Int)] w fun e w' => e = .returned (t4 a b c 0) ∧ Q w w' := by
  have hs := fun w => isspace_any k w
  rw [decide_eq_true ⟨h0, h1⟩] at hs
  clear h0 h1
  go_enter Try.func22, Try.ntmps22
  go_wp2_with fail
  refine (hs _).mono ?_
  rintro e w1 ⟨rfl, rfl⟩
  go_wp2_with fail
  refine bodyPost_ret (v := t4 a b c 0) (by simp [results, Try.results22, go_sem, t4]) rfl ⟨rfl, Q.refl _⟩
set_option maxHeartbeats 2000000 in
theorem conv_two {k l : Int} {ta fa fa' tb fb' fb : Nat} {X0 X1 X2 Y0 Y1 Y2 Z0 Z1 Z2 U0 U1 U2 : Nat → Nat → Nat → Nat} (h : k ≠ l) (hk : Way k ta fa fa' X0 X1 X2 Y0 Y1 Y2) (hl : Way l tb fb' fb Z0 Z1 Z2 U0 U1 U2) (a b c : Nat) (ha : a < 4294967296) (hb : b < 4294967296) (hc : c < 4294967296) (w : World) :
    Calls Try.prog 22 #[.int .i64 k, .int .i64 l, .int .u32 (a : Int), .int .u32 (b : Int), .int .u32 (c : Int)] w fun e w' => e = .returned (t4 (U0 (X0 a b c) (X1 a b c) (X2 a b c)) (U1 (X0 a b c) (X1 a b c) (X2 a b c)) (U2 (X0 a b c) (X1 a b c) (X2 a b c)) 0) ∧ Q w w' := by
  have e1 : (k == l) = false := by rw [beq_eq_false_iff_ne]; exact h
  obtain ⟨x0, x1, x2⟩ := hk.lt a b c ha hb hc
  generalize hX : X0 a b c = X at *
  generalize hY : X1 a b c = Y at *
  generalize hZ : X2 a b c = Z at *
  have HC1 : Hid (∀ x : World, Calls Try.prog fa #[.agg #[], a3 a b c] x fun e x' => e = .returned (a3 X Y Z) ∧ Q x x') := fun x => by rw [← hX, ← hY, ← hZ]; exact hk.c1 a b c ha hb hc x
  have HC2 : Hid (∀ x : World, Calls Try.prog fb #[.agg #[], a3 X Y Z] x fun e x' => e = .returned (a3 (U0 X Y Z) (U1 X Y Z) (U2 X Y Z)) ∧ Q x x') := fun x => hl.c2 X Y Z x0 x1 x2 x
  have HK : Hid (Way k ta fa fa' X0 X1 X2 Y0 Y1 Y2) := hk
  have HL : Hid (Way l tb fb' fb Z0 Z1 Z2 U0 U1 U2) := hl
  generalize U0 X Y Z = U at *
  generalize U1 X Y Z = V at *
  generalize U2 X Y Z = W at *
  clear h hk hl hX hY hZ x0 x1 x2
  go_enter Try.func22, Try.ntmps22
  go_wp2_with fail
  refine (HK.out.sp _).mono ?_
  rintro e w1 ⟨rfl, rfl⟩
  go_wp2_with fail
  refine (HL.out.sp _).mono ?_
  rintro e w2 ⟨rfl, rfl⟩
  go_wp2_with fail
  refine regionCv rfl rfl ⟨rfl, rfl, rfl, rfl, rfl, HK.out.m1, HL.out.m2, HK.out.n1, HL.out.n2, HC1.out, HC2.out, HL.out.na, Nat.le_refl _⟩ ?_
  intro x V' hlo hq hb3
  have c0' := hb3.c0
  have c1' := hb3.c1
  have c2' := hb3.c2
  generalize hz : (((x.setCell ⟨V', 0, none⟩ (.int .u32 (U : Nat))).setCell ⟨V', 1, none⟩ (.int .u32 (V : Nat))).setCell ⟨V', 2, none⟩ (.int .u32 (W : Nat))) = wz
  have HQ : Hid (Q w2 wz) := by rw [← hz]; exact ((hq.set hlo _).set hlo _).set hlo _
  have d0 : wz.cell? ⟨V', 0, none⟩ = some (.int .u32 (U : Nat)) := by rw [← hz]; simp [go_sem, c0', c1', c2']
  have d1 : wz.cell? ⟨V', 1, none⟩ = some (.int .u32 (V : Nat)) := by rw [← hz]; simp [go_sem, c0', c1', c2']
  have d2 : wz.cell? ⟨V', 2, none⟩ = some (.int .u32 (W : Nat)) := by rw [← hz]; simp [go_sem, c0', c1', c2']
  clear hz c0' c1' c2' hb3 hq hlo HC1 HC2 HK HL
  simp only [putAll]
  unfold ptrV
  go_wp2_with fail
  go_quiet (fail)
  have HZ : Hid (Q w2 (wz.drewN nq)) := sp_drewN HQ.out _
  generalize wz.drewN nq = wq at HZ ⊢
  go_wp2_with fail
  refine bodyPost_ret (v := t4 U V W 0) (by simp [results, Try.results22, go_sem, t4]) rfl ⟨rfl, HZ.out⟩
set_option maxHeartbeats 1000000 in
theorem conv_bad1 {k l : Int} (h : k ≠ l ∨ k < 0 ∨ 4 < k) (h1 : k ≠ 1) (h2 : k ≠ 2) (h3 : k ≠ 3) (h4 : k ≠ 4) (hl : (∃ t, ∀ w : World, Calls Try.prog 44 #[.int .i64 l] w fun e w' => e = .returned (.iface t (.agg #[])) ∧ w' = w) ∨ (∀ w : World, Calls Try.prog 44 #[.int .i64 l] w fun e w' => e = .returned .nilIface ∧ w' = w)) (a b c : Nat) (w : World) :
    Calls Try.prog 22 #[.int .i64 k, .int .i64 l, .int .u32 (a : Int), .int .u32 (b : Int), .int .u32 (c : Int)] w fun e w' => e = .returned (t4 0 0 0 70) ∧ Q w w' := by
  have hs := fun w => isspace_any k w
  have HS : Hid (∀ w : World, Calls Try.prog 44 #[.int .i64 k] w fun e w' => e = .returned .nilIface ∧ w' = w) := spaceOf_no k h1 h2 h3 h4
  by_cases hkl : k = l
  · have e1 : (k == l) = true := by rw [beq_iff_eq]; exact hkl
    rw [decide_eq_false (by omega)] at hs
    have HI := hs
    rcases hl with ⟨t, hl⟩ | hl
    all_goals
      clear hs h h1 h2 h3 h4 hkl
      go_enter Try.func22, Try.ntmps22
      go_wp2_with fail
      refine (HI _).mono ?_
      rintro e w1 ⟨rfl, rfl⟩
      go_wp2_with fail
      refine (HS.out _).mono ?_
      rintro e w1 ⟨rfl, rfl⟩
      go_wp2_with fail
      refine (hl _).mono ?_
      rintro e w1 ⟨rfl, rfl⟩
      go_wp2_with fail
      refine bodyPost_ret (v := t4 0 0 0 70) (by simp [results, Try.results22, go_sem, t4]) rfl ⟨rfl, Q.refl _⟩
  · have e1 : (k == l) = false := by rw [beq_eq_false_iff_ne]; exact hkl
    rcases hl with ⟨t, hl⟩ | hl
    all_goals
      clear hs h h1 h2 h3 h4 hkl
      go_enter Try.func22, Try.ntmps22
      go_wp2_with fail
      refine (HS.out _).mono ?_
      rintro e w1 ⟨rfl, rfl⟩
      go_wp2_with fail
      refine (hl _).mono ?_
      rintro e w1 ⟨rfl, rfl⟩
      go_wp2_with fail
      refine bodyPost_ret (v := t4 0 0 0 70) (by simp [results, Try.results22, go_sem, t4]) rfl ⟨rfl, Q.refl _⟩
set_option maxHeartbeats 1000000 in
theorem conv_bad2 {k l : Int} (h : k ≠ l) (t : Nat) (hk : ∀ w : World, Calls Try.prog 44 #[.int .i64 k] w fun e w' => e = .returned (.iface t (.agg #[])) ∧ w' = w) (hl : ∀ w : World, Calls Try.prog 44 #[.int .i64 l] w fun e w' => e = .returned .nilIface ∧ w' = w) (a b c : Nat) (w : World) :
    Calls Try.prog 22 #[.int .i64 k, .int .i64 l, .int .u32 (a : Int), .int .u32 (b : Int), .int .u32 (c : Int)] w fun e w' => e = .returned (t4 0 0 0 70) ∧ Q w w' := by
  have e1 : (k == l) = false := by rw [beq_eq_false_iff_ne]; exact h
  clear h
  go_enter Try.func22, Try.ntmps22
  go_wp2_with fail
  refine (hk _).mono ?_
  rintro e w1 ⟨rfl, rfl⟩
  go_wp2_with fail
  refine (hl _).mono ?_
  rintro e w1 ⟨rfl, rfl⟩
  go_wp2_with fail
  refine bodyPost_ret (v := t4 0 0 0 70) (by simp [results, Try.results22, go_sem, t4]) rfl ⟨rfl, Q.refl _⟩
end Go.Proofs.Ytdempklpmggdoaa
/- Convert. -/
namespace Go.Proofs.Ytdempklpmggdoaa
open Go.RowKit
set_option linter.unusedVariables false
set_option linter.unusedSimpArgs false

set_option maxHeartbeats 2000000 in
theorem way_any {k l : Int} {ta fa fa' tb fb' fb : Nat} {X0 X1 X2 Y0 Y1 Y2 Z0 Z1 Z2 U0 U1 U2 : Nat → Nat → Nat → Nat} (h : k ≠ l) (hk : Way k ta fa fa' X0 X1 X2 Y0 Y1 Y2) (hl : Way l tb fb' fb Z0 Z1 Z2 U0 U1 U2) :
    Fun3 24 (.agg #[.int .i64 k, .int .i64 l]) (fun a b c => U0 (X0 a b c) (X1 a b c) (X2 a b c)) (fun a b c => U1 (X0 a b c) (X1 a b c) (X2 a b c)) (fun a b c => U2 (X0 a b c) (X1 a b c) (X2 a b c)) where
  en := enters_of Try.func24 (by kernel_rfl) rfl
  lt := fun r s t hr hs ht => by
    obtain ⟨a1, a2, a3⟩ := hk.lt r s t hr hs ht
    exact hl.ut _ _ _ a1 a2 a3
  c := fun r s t hr hs ht w => by
    have HC : Hid (∀ w : World, Calls Try.prog 22 #[.int .i64 k, .int .i64 l, .int .u32 (r : Int), .int .u32 (s : Int), .int .u32 (t : Int)] w fun e w' => e = .returned (t4 (U0 (X0 r s t) (X1 r s t) (X2 r s t)) (U1 (X0 r s t) (X1 r s t) (X2 r s t)) (U2 (X0 r s t) (X1 r s t) (X2 r s t)) 0) ∧ Q w w') := conv_two h hk hl r s t hr hs ht
    show Calls Try.prog 24 #[.agg #[.int .i64 k, .int .i64 l], .agg #[.int .u32 (r : Int), .int .u32 (s : Int), .int .u32 (t : Int)]] w fun e w' => e = .returned (.agg #[.int .u32 ((U0 (X0 r s t) (X1 r s t) (X2 r s t) : Nat) : Int), .int .u32 ((U1 (X0 r s t) (X1 r s t) (X2 r s t) : Nat) : Int), .int .u32 ((U2 (X0 r s t) (X1 r s t) (X2 r s t) : Nat) : Int)]) ∧ Q w w'
    generalize U0 (X0 r s t) (X1 r s t) (X2 r s t) = u at *
    generalize U1 (X0 r s t) (X1 r s t) (X2 r s t) = v at *
    generalize U2 (X0 r s t) (X1 r s t) (X2 r s t) = z at *
    clear h hk hl
    have q0 : Hid (∀ a b c d e f, Q w (((w.alloc (.cells a b)).alloc (.cells c d)).alloc (.cells e f))) := fun a b c d e f => (((Q.refl w).cells _ _).cells _ _).cells _ _
    go_enter Try.func24, Try.ntmps24
    go_wp2_with fail
    refine (HC.out _).mono ?_
    rintro e w1 ⟨rfl, q1⟩
    have hQ : Hid (Q w w1) := (q0.out _ _ _ _ _ _).trans q1
    have d0 : w1.cell? ⟨w.heap.size + 1 + 1, 0, none⟩ = some (.int .u32 0) := q1.cell (by simp [go_sem])
    have d1 : w1.cell? ⟨w.heap.size + 1 + 1, 1, none⟩ = some (.int .u32 0) := q1.cell (by simp [go_sem])
    have d2 : w1.cell? ⟨w.heap.size + 1 + 1, 2, none⟩ = some (.int .u32 0) := q1.cell (by simp [go_sem])
    have df : ∀ j, w1.frozen? ⟨w.heap.size + 1 + 1, j, none⟩ = false := fun j => (q1.2 _).trans (by simp [go_sem])
    clear q1
    unfold t4
    go_wp2_with fail
    refine bodyPost_ret (v := .agg #[.int .u32 (u : Int), .int .u32 (v : Int), .int .u32 (z : Int)]) (by simp [results, Try.results24, go_sem, d0, d1, d2]) rfl ⟨rfl, ((hQ.out.set (by show _ ≤ w.heap.size + 1 + 1; omega) _).set (by show _ ≤ w.heap.size + 1 + 1; omega) _).set (by show _ ≤ w.heap.size + 1 + 1; omega) _⟩
/-- The planes of a good picture, as planes that came in. -/
def PL.pd (a b : Nat) (x : PL) : PD := ⟨a, b, some ⟨x.g, x.o, none⟩, x.cap, x.S⟩
theorem Pc.dsl {w : World} {g o a b n cap : Nat} {L : List PL} (h : Pc w g o a b L) (hn : L.length = n) (hcap : n ≤ cap) : DSl w (.slice (some ⟨g, o, none⟩) n cap) (L.map (PL.pd a b)) := by
  refine Or.inr ⟨g, o, cap, by rw [List.length_map, hn], by rw [List.length_map, hn]; exact hcap, fun i x hx => ?_⟩
  rw [List.getElem?_map] at hx
  cases hy : L[i]? with
  | none => rw [hy] at hx; cases hx
  | some y =>
    rw [hy] at hx
    have hx : PL.pd a b y = x := Option.some.inj hx
    subst hx
    obtain ⟨c0, c1, c2⟩ := h.row i y hy
    exact ⟨c0, c1, c2, (h.it y (List.mem_of_getElem? hy)).usl⟩
theorem Pc.fine {w : World} {g o a b n : Nat} {L : List PL} (h : Pc w g o a b L) (hn : L.length = n) {sp : Int} (hsp : spcB sp n = true) : chkP sp (L.map (PL.pd a b)) = 0 := by
  have hlen : (L.map (PL.pd a b)).length = n := by rw [List.length_map, hn]
  have h1 : numB ((L.map (PL.pd a b)).length : Int) = true := by
    have := h.n1; have := h.n4
    unfold numB; rw [hlen]; simp; omega
  have h2 : firstE (L.map (PL.pd a b)) = 0 := firstE_ok (fun j y hy => by
    rw [List.getElem?_map] at hy
    cases hz : L[j]? with
    | none => rw [hz] at hy; cases hy
    | some z =>
      rw [hz] at hy
      have hy : PL.pd a b z = y := Option.some.inj hy
      subst hy
      show chk a b z.S.length = 0
      rw [(h.it z (List.mem_of_getElem? hz)).len]
      exact chk_size h.size)
  obtain ⟨z, hz⟩ : ∃ z, L[0]? = some z := ⟨_, List.getElem?_eq_getElem (by have := h.n1; omega)⟩
  have h3 : ((L.map (PL.pd a b)).all fun x => x.like ((L.map (PL.pd a b)).getD 0 pd0)) = true := by
    rw [List.all_eq_true]
    intro x hx
    obtain ⟨y, hy, rfl⟩ := List.mem_map.1 hx
    rw [List.getD_eq_getElem?_getD, List.getElem?_map, hz]
    simp [PD.like, PL.pd]
  unfold chkP
  rw [if_pos h1, if_pos h2, if_pos h3, hlen, if_pos hsp]
theorem pcheck_good {w : World} {g o a b n cap : Nat} {L : List PL} (h : Pc w g o a b L) (hn : L.length = n) (hcap : n ≤ cap) {sp : Int} (hsp : spcB sp n = true) :
    Calls Try.prog 6 #[.agg #[.int .i64 sp, .slice (some ⟨g, o, none⟩) n cap]] w fun e w' => e = .returned (.int .i64 0) ∧ Q w w' := by
  have := pcheck_any w sp _ _ (h.dsl hn hcap) (fun x hx => by
    obtain ⟨y, hy, rfl⟩ := List.mem_map.1 hx
    have := (h.it y hy).len
    have := h.size.ab
    show y.S.length ≤ _
    omega) (by rw [List.length_map]; have := h.n4; omega)
  rwa [h.fine hn hsp] at this
set_option maxHeartbeats 2000000 in
set_option maxRecDepth 100000 in
theorem conv8_good {k l : Int} {ta fa fa' tb fb' fb : Nat} {X0 X1 X2 Y0 Y1 Y2 Z0 Z1 Z2 U0 U1 U2 : Nat → Nat → Nat → Nat} (hkl : k ≠ l) (hk : Way k ta fa fa' X0 X1 X2 Y0 Y1 Y2) (hl : Way l tb fb' fb Z0 Z1 Z2 U0 U1 U2)
    (w : World) (g o cap a b n : Nat) (L : List PL) (h : Pc w g o a b L) (hn : L.length = n) (hcap : n ≤ cap) (h3 : 3 ≤ n) (hsp : spcB k n = true) :
    Calls Try.prog 8 #[.agg #[.int .i64 k, .slice (some ⟨g, o, none⟩) n cap], .int .i64 l] w fun e w' => ∃ g' cap' M, e = .returned (.tuple #[.agg #[.int .i64 l, .slice (some ⟨g', 0, none⟩) n cap'], .int .i64 0]) ∧ M.map PL.S = mixL (fun a b c => U0 (X0 a b c) (X1 a b c) (X2 a b c)) (fun a b c => U1 (X0 a b c) (X1 a b c) (X2 a b c)) (fun a b c => U2 (X0 a b c) (X1 a b c) (X2 a b c)) (L.map PL.S) ∧ Hid (Nw w.heap.size w' g' cap' a b M) ∧ Q w w' := by
  have HP : Hid (Pc w g o a b L) := h
  have HF : Hid (Fun3 24 (.agg #[.int .i64 k, .int .i64 l]) (fun a b c => U0 (X0 a b c) (X1 a b c) (X2 a b c)) (fun a b c => U1 (X0 a b c) (X1 a b c) (X2 a b c)) (fun a b c => U2 (X0 a b c) (X1 a b c) (X2 a b c))) := way_any hkl hk hl
  have HC : Hid (∀ w : World, ∃ x y z : Nat, Calls Try.prog 22 #[.int .i64 k, .int .i64 l, .int .u32 0, .int .u32 0, .int .u32 0] w fun e w' => e = .returned (.tuple #[.int .u32 (x : Nat), .int .u32 (y : Nat), .int .u32 (z : Nat), .int .i64 0]) ∧ Q w w') := fun w => ⟨_, _, _, conv_two hkl hk hl 0 0 0 (by decide) (by decide) (by decide) w⟩
  have HN : Hid (L.length = n) := hn
  have HS : Hid (spcB k n = true) := hsp
  have e1 : (k == l) = false := by rw [beq_eq_false_iff_ne]; exact hkl
  generalize (fun a b c => U0 (X0 a b c) (X1 a b c) (X2 a b c)) = G0 at *
  generalize (fun a b c => U1 (X0 a b c) (X1 a b c) (X2 a b c)) = G1 at *
  generalize (fun a b c => U2 (X0 a b c) (X1 a b c) (X2 a b c)) = G2 at *
  clear h hkl hk hl hn hsp
  go_enter Try.func8, Try.ntmps8
  go_wp2_with fail
  refine (pcheck_good (HP.out.next (((Q.refl w).cells _ _).cells _ _)) HN.out hcap HS.out).mono ?_
  rintro e w1 ⟨rfl, q1⟩
  have HQ1 : Hid (Q w w1) := (((Q.refl w).cells _ _).cells _ _).trans q1
  have p0 : w1.cell? ⟨w.heap.size, 0, none⟩ = some (.int .i64 k) := q1.cell (by simp [go_sem])
  have p1 : w1.cell? ⟨w.heap.size, 1, none⟩ = some (.slice (some ⟨g, o, none⟩) n cap) := q1.cell (by simp [go_sem])
  have r0 : w1.cell? ⟨w.heap.size + 1, 0, none⟩ = some (.int .i64 0) := q1.cell (by simp [go_sem])
  have r1 : w1.cell? ⟨w.heap.size + 1, 1, none⟩ = some (.slice none 0 0) := q1.cell (by simp [go_sem])
  have rf : ∀ j, w1.frozen? ⟨w.heap.size + 1, j, none⟩ = false := fun j => (q1.2 _).trans (by simp [go_sem])
  clear q1
  go_wp2_with fail
  obtain ⟨x, y, z, hc⟩ := HC.out w1
  refine hc.mono ?_
  rintro e w2 ⟨rfl, q2⟩
  have HQ2 : Hid (Q w w2) := HQ1.out.trans q2
  replace p0 := q2.cell p0
  replace p1 := q2.cell p1
  replace r0 := q2.cell r0
  replace r1 := q2.cell r1
  replace rf : ∀ j, w2.frozen? ⟨w.heap.size + 1, j, none⟩ = false := fun j => (q2.2 _).trans (rf j)
  clear q2 hc
  go_wp2_with fail
  refine (mixing_any w2 k l g o cap a b n L (HP.out.next HQ2.out) HN.out hcap h3 24 (.agg #[.int .i64 k, .int .i64 l]) G0 G1 G2 HF.out).mono ?_
  rintro e w3 ⟨g3, cap3, M, rfl, hM, HW, q3⟩
  have hs2 := HQ2.out.1.size
  have hlt : w.heap.size + 1 < w2.heap.size := cell_in r0
  replace r0 := q3.cell r0
  replace r1 := q3.cell r1
  replace rf : ∀ j, w3.frozen? ⟨w.heap.size + 1, j, none⟩ = false := fun j => (q3.2 _).trans (rf j)
  have HQ3 : Hid (Q w w3) := HQ2.out.trans q3
  have HM : Hid (M.map PL.S = mixL G0 G1 G2 (L.map PL.S)) := hM
  have HW' : Hid (Nw (w.heap.size + 2) w3 g3 cap3 a b M) := HW.out.mono (by omega)
  clear q3 hM
  go_wp2_with fail
  have F9 : Fr w3 ((w3.setCell ⟨w.heap.size + 1, 0, none⟩ (.int .i64 l)).setCell ⟨w.heap.size + 1, 1, none⟩ (.slice (some ⟨g3, 0, none⟩) n cap3)) (fun b => b ≠ w.heap.size + 1) := ((Fr.refl w3 _).set (fun h => h rfl) _).set (fun h => h rfl) _
  refine bodyPost_ret (v := .tuple #[.agg #[.int .i64 l, .slice (some ⟨g3, 0, none⟩) n cap3], .int .i64 0]) (by simp [results, Try.results8, go_sem, r0, r1]) rfl ⟨g3, cap3, M, rfl, HM.out, (HW'.out.keep F9 (by have := HW'.out.low; omega) (fun x hx => by have := (HW'.out.it x hx).1.low; omega)).mono (by omega), (HQ3.out.set (by show _ ≤ w.heap.size + 1; omega) _).set (by show _ ≤ w.heap.size + 1; omega) _⟩
end Go.Proofs.Ytdempklpmggdoaa
