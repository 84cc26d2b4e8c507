/- Convert: what the program returns. -/
import Derived.Test.YtkgojnjlfkijiaaGreatGe24e6544
import Derived.Test.YtkgojnjlfkijiaaGreatGb3d8d911
import Derived.Test.YtkgojnjlfkijiaaGreatGe76c5f84
import Derived.Test.YtkgojnjlfkijiaaGreatG2a0300ab
namespace Go.Proofs.YtkgojnjlfkijiaaGreat
open Go.RowKit
set_option linter.unusedVariables false
set_option linter.unusedSimpArgs false

structure Box3 (x : World) (V : Nat) : Prop where
  c0 : x.cell? ⟨V, 0, none⟩ = some (.int .u32 0)
  c1 : x.cell? ⟨V, 1, none⟩ = some (.int .u32 0)
  c2 : x.cell? ⟨V, 2, none⟩ = some (.int .u32 0)
  f : ∀ j, x.frozen? ⟨V, j, none⟩ = false
theorem run_mkf {ρ : Operand → Value} {x : World} {d : Option Tmp} {ty : TypeId} {ps : String} {af : Array Edge} {g : Option (Nat × Bool)} {j : Nat} {v : Value} (h : ρ (.tmp j) = v) : (execOp ρ { dst := d, op := .makeFunc (.method "halide/space.fromRGB") #[.tmp j] #[], type := ty, pos := ps, after := af, guard := g }).run Tryz.prog x = .ok (.value (.func (.method "halide/space.fromRGB") #[v] #[])) x := by
  simp [execOp, h, go_sem, Instr.makeFunc]
theorem run_nilc {ρ : Operand → Value} {x : World} {d : Option Tmp} {ty : TypeId} {ps : String} {af : Array Edge} {g : Option (Nat × Bool)} {j : Nat} {t2 : TypeId} {v : Value} (h : ρ (.tmp j) = .func (.method "halide/space.fromRGB") #[.iface t2 v] #[]) (hn : ∀ x : World, (nilAhead 254 t2 v "halide/space.fromRGB").run Tryz.prog x = .ok (some false) x) : (execOp ρ { dst := d, op := .nilCheck (.tmp j), type := ty, pos := ps, after := af, guard := g }).run Tryz.prog x = .ok (.value (.func (.method "halide/space.fromRGB") #[.iface t2 v] #[])) x := by
  simp [execOp, h, go_sem, hn]
theorem run_inv {ρ : Operand → Value} {x : World} {d : Option Tmp} {ty : TypeId} {ps : String} {af : Array Edge} {g : Option (Nat × Bool)} {j f : Nat} {tt : TypeId} {vv : Value} {name : String} {args : Array Operand} {at' : Array TypeId} {vs : Value} (hr : ρ (.tmp j) = .iface tt vv)
    (hm : ∀ x : World, (method 254 tt vv name).run Tryz.prog x = .ok (f, vv) x) (hen : ∀ (args : Array Value) (x : World), (callFunc f args).run Tryz.prog x = .ok (.enter f args) x) (h : args.map ρ = #[vs]) :
    (execOp ρ { dst := d, op := .call { callee := .invoke (.tmp j) name, args := args, argTypes := at' }, type := ty, pos := ps, after := af, guard := g }).run Tryz.prog x = .ok (.enter f #[vv, vs]) x := by
  simp [execOp, resolve, invoke, callMethod, h, hr, hm, hen, go_sem]
theorem yld_invoke {R : Exit → Act → World → Prop} {a : Act} {x : World} {t : Nat} {G : Value → World → Prop} {ty : TypeId} {ps : String} {af : Array Edge} {g : Option (Nat × Bool)} {j f : Nat} {tt : TypeId} {vv : Value} {name : String} {args : Array Operand} {at' : Array TypeId} {vs : Value} (hr : a.eval (.tmp j) = .iface tt vv)
    (hm : ∀ x : World, (method 254 tt vv name).run Tryz.prog x = .ok (f, vv) x) (hen : ∀ (args : Array Value) (x : World), (callFunc f args).run Tryz.prog x = .ok (.enter f args) x) (h : args.map a.eval = #[vs])
    (hc : Calls Tryz.prog f #[vv, vs] x fun e x' => ∃ u, e = .returned u ∧ Q x x' ∧ G u x') : Yld Tryz.prog R { dst := some t, op := .call { callee := .invoke (.tmp j) name, args := args, argTypes := at' }, type := ty, pos := ps, after := af, guard := g } a x t G := ⟨by
  unfold Oper.wp
  rw [run_inv hr hm hen h, Oper.upon_enter]
  refine hc.mono ?_
  rintro e x' ⟨u, rfl, q, hg⟩
  exact ⟨u, rfl, q, hg⟩⟩
theorem Box3.next {x x' : World} {V : Nat} (h : Box3 x V) (q : Q x x') : Box3 x' V := ⟨q.cell h.c0, q.cell h.c1, q.cell h.c2, fun j => (q.2 _).trans (h.f j)⟩
def boxT (lo : Nat) : Spec := ⟨fun v x => ∃ V, v = ptrV V ∧ lo ≤ V ∧ Box3 x V, fun ⟨V, h1, h2, h3⟩ q => ⟨V, h1, h2, h3.next q⟩⟩
def oCv_2 : Oper := { dst := some 39, op := .move (.tmp 2), type := 22, pos := "space.go:52", after := #[], guard := none }
def oCv_3 : Oper := { dst := some 40, op := .move (.tmp 3), type := 22, pos := "space.go:52", after := #[], guard := none }
def oCv_4 : Oper := { dst := some 41, op := .move (.tmp 4), type := 22, pos := "space.go:52", after := #[], guard := none }
def sCv : List Nat := [37, 38, 39, 40, 41, 42, 43, 44, 45, 46, 47, 16]
def spCv (A B C X Y Z U V W ta tb fa fb lo : Nat) : List Spec := [spV (.iface tb (.agg #[])), spV (.iface ta (.agg #[])), spV (.int .u32 (A : Nat)), spV (.int .u32 (B : Nat)), spV (.int .u32 (C : Nat)), spV (a3 A B C), spV (a3 X Y Z), spV (.func (.method "halide/space.fromRGB") #[.iface tb (.agg #[])] #[]), spV (.func (.method "halide/space.fromRGB") #[.iface tb (.agg #[])] #[]), spV (.iface tb (.agg #[])), spV (a3 U V W), boxT lo]
structure EnvCv (a0 : Act) (w : World) (A B C X Y Z U V W ta tb fa fb lo : Nat) : Prop where
  h15 : a0.tmps[15]? = some (.iface tb (.agg #[]))
  h14 : a0.tmps[14]? = some (.iface ta (.agg #[]))
  h2 : a0.tmps[2]? = some (.int .u32 (A : Nat))
  h3 : a0.tmps[3]? = some (.int .u32 (B : Nat))
  h4 : a0.tmps[4]? = some (.int .u32 (C : Nat))
  m1 : ∀ x : World, (method 254 ta (.agg #[]) "halide/space.toRGB").run Tryz.prog x = .ok (fa, .agg #[]) x
  m2 : ∀ x : World, (method 254 tb (.agg #[]) "halide/space.fromRGB").run Tryz.prog x = .ok (fb, .agg #[]) x
  n1 : ∀ (args : Array Value) (x : World), (callFunc fa args).run Tryz.prog x = .ok (.enter fa args) x
  n2 : ∀ (args : Array Value) (x : World), (callFunc fb args).run Tryz.prog x = .ok (.enter fb args) x
  c1 : ∀ x : World, Calls Tryz.prog fa #[.agg #[], a3 A B C] x fun e x' => e = .returned (a3 X Y Z) ∧ Q x x'
  c2 : ∀ x : World, Calls Tryz.prog fb #[.agg #[], a3 X Y Z] x fun e x' => e = .returned (a3 U V W) ∧ Q x x'
  na : ∀ x : World, (nilAhead 254 tb (.agg #[]) "halide/space.fromRGB").run Tryz.prog x = .ok (some false) x
  hlo : lo ≤ w.heap.size
theorem yCv_2 {a0 : Act} {w : World} {A B C X Y Z U V W ta tb fa fb lo : Nat} (E : EnvCv a0 w A B C X Y Z U V W ta tb fa fb lo) {R : Exit → Act → World → Prop} {a : Act} {x : World} (q : Q w x) (oth : ∀ j, j ∉ sCv → a.tmps[j]? = a0.tmps[j]?) (dep : ∀ ed ∈ oCv_2.after, Region.binds .any ed = true → ∀ t', sCv[ed.on]? = some t' → ∃ v, a.tmps[t']? = some v ∧ specAt (spCv A B C X Y Z U V W ta tb fa fb lo) ed.on v x) : Yld Tryz.prog R oCv_2 a x 39 (fun v x' => specAt (spCv A B C X Y Z U V W ta tb fa fb lo) 2 v x' ∧ (2 ∈ ([] : List Nat) → v = ptrV x.heap.size)) := by
  exact yld_move ((oth 2 (by decide)).trans E.h2) ⟨rfl, fun h => absurd h (by decide)⟩
theorem yCv_3 {a0 : Act} {w : World} {A B C X Y Z U V W ta tb fa fb lo : Nat} (E : EnvCv a0 w A B C X Y Z U V W ta tb fa fb lo) {R : Exit → Act → World → Prop} {a : Act} {x : World} (q : Q w x) (oth : ∀ j, j ∉ sCv → a.tmps[j]? = a0.tmps[j]?) (dep : ∀ ed ∈ oCv_3.after, Region.binds .any ed = true → ∀ t', sCv[ed.on]? = some t' → ∃ v, a.tmps[t']? = some v ∧ specAt (spCv A B C X Y Z U V W ta tb fa fb lo) ed.on v x) : Yld Tryz.prog R oCv_3 a x 40 (fun v x' => specAt (spCv A B C X Y Z U V W ta tb fa fb lo) 3 v x' ∧ (3 ∈ ([] : List Nat) → v = ptrV x.heap.size)) := by
  exact yld_move ((oth 3 (by decide)).trans E.h3) ⟨rfl, fun h => absurd h (by decide)⟩
theorem yCv_4 {a0 : Act} {w : World} {A B C X Y Z U V W ta tb fa fb lo : Nat} (E : EnvCv a0 w A B C X Y Z U V W ta tb fa fb lo) {R : Exit → Act → World → Prop} {a : Act} {x : World} (q : Q w x) (oth : ∀ j, j ∉ sCv → a.tmps[j]? = a0.tmps[j]?) (dep : ∀ ed ∈ oCv_4.after, Region.binds .any ed = true → ∀ t', sCv[ed.on]? = some t' → ∃ v, a.tmps[t']? = some v ∧ specAt (spCv A B C X Y Z U V W ta tb fa fb lo) ed.on v x) : Yld Tryz.prog R oCv_4 a x 41 (fun v x' => specAt (spCv A B C X Y Z U V W ta tb fa fb lo) 4 v x' ∧ (4 ∈ ([] : List Nat) → v = ptrV x.heap.size)) := by
  exact yld_move ((oth 4 (by decide)).trans E.h4) ⟨rfl, fun h => absurd h (by decide)⟩
def rg0 (r g b : Nat) : Nat := r
def rg1 (r g b : Nat) : Nat := g
def rg2 (r g b : Nat) : Nat := b
def ofx0 (r g b : Nat) : Nat := logV r
def ofx1 (r g b : Nat) : Nat := logV g
def ofx2 (r g b : Nat) : Nat := logV b
def otx0 (r g b : Nat) : Nat := expW r
def otx1 (r g b : Nat) : Nat := expW g
def otx2 (r g b : Nat) : Nat := expW b
end Go.Proofs.YtkgojnjlfkijiaaGreat
/- Convert: spaces by number, and what Convert returns. -/
namespace Go.Proofs.YtkgojnjlfkijiaaGreat
open Go.RowKit
theorem narW_lt (x : Nat) : narW x < 4294967296 := toldD_lt _
theorem logV_lt (x : Nat) : logV x < 4294967296 := by
  unfold logV
  split
  · decide
  · split
    · decide
    · split
      · decide
      · exact narW_lt _
theorem expW_lt (y : Nat) : expW y < 4294967296 := by
  unfold expW
  split
  · decide
  · split
    · decide
    · split
      · decide
      · have := exp_int (y := y) (by omega) (by omega)
        unfold expP; omega
def t4 (x y z : Nat) (e : Int) : Value := .tuple #[.int .u32 (x : Nat), .int .u32 (y : Nat), .int .u32 (z : Nat), .int .i64 e]
end Go.Proofs.YtkgojnjlfkijiaaGreat
/- Convert. -/
namespace Go.Proofs.YtkgojnjlfkijiaaGreat
open Go.RowKit
/-- The planes of a good picture, as planes that came in. -/
def PL.pd (a b : Nat) (x : PL) : PD := ⟨a, b, some ⟨x.g, x.o, none⟩, x.cap, x.S⟩
theorem Pc.dsl {w : World} {g o a b n cap : Nat} {L : List PL} (h : Pc w g o a b L) (hn : L.length = n) (hcap : n ≤ cap) : DSl w (.slice (some ⟨g, o, none⟩) n cap) (L.map (PL.pd a b)) := by
  refine Or.inr ⟨g, o, cap, by rw [List.length_map, hn], by rw [List.length_map, hn]; exact hcap, fun i x hx => ?_⟩
  rw [List.getElem?_map] at hx
  cases hy : L[i]? with
  | none => rw [hy] at hx; cases hx
  | some y =>
    rw [hy] at hx
    have hx : PL.pd a b y = x := Option.some.inj hx
    subst hx
    obtain ⟨c0, c1, c2⟩ := h.row i y hy
    exact ⟨c0, c1, c2, (h.it y (List.mem_of_getElem? hy)).usl⟩
theorem Pc.fine {w : World} {g o a b n : Nat} {L : List PL} (h : Pc w g o a b L) (hn : L.length = n) {sp : Int} (hsp : spcB sp n = true) : chkP sp (L.map (PL.pd a b)) = 0 := by
  have hlen : (L.map (PL.pd a b)).length = n := by rw [List.length_map, hn]
  have h1 : numB ((L.map (PL.pd a b)).length : Int) = true := by
    have := h.n1; have := h.n4
    unfold numB; rw [hlen]; simp; omega
  have h2 : firstE (L.map (PL.pd a b)) = 0 := firstE_ok (fun j y hy => by
    rw [List.getElem?_map] at hy
    cases hz : L[j]? with
    | none => rw [hz] at hy; cases hy
    | some z =>
      rw [hz] at hy
      have hy : PL.pd a b z = y := Option.some.inj hy
      subst hy
      show chk a b z.S.length = 0
      rw [(h.it z (List.mem_of_getElem? hz)).len]
      exact chk_size h.size)
  obtain ⟨z, hz⟩ : ∃ z, L[0]? = some z := ⟨_, List.getElem?_eq_getElem (by have := h.n1; omega)⟩
  have h3 : ((L.map (PL.pd a b)).all fun x => x.like ((L.map (PL.pd a b)).getD 0 pd0)) = true := by
    rw [List.all_eq_true]
    intro x hx
    obtain ⟨y, hy, rfl⟩ := List.mem_map.1 hx
    rw [List.getD_eq_getElem?_getD, List.getElem?_map, hz]
    simp [PD.like, PL.pd]
  unfold chkP
  rw [if_pos h1, if_pos h2, if_pos h3, hlen, if_pos hsp]
theorem pcheck_good {w : World} {g o a b n cap : Nat} {L : List PL} (h : Pc w g o a b L) (hn : L.length = n) (hcap : n ≤ cap) {sp : Int} (hsp : spcB sp n = true) :
    Calls Tryz.prog 71 #[.agg #[.int .i64 sp, .slice (some ⟨g, o, none⟩) n cap]] w fun e w' => e = .returned (.int .i64 0) ∧ Q w w' := by
  have := pcheck_any w sp _ _ (h.dsl hn hcap) (fun x hx => by
    obtain ⟨y, hy, rfl⟩ := List.mem_map.1 hx
    have := (h.it y hy).len
    have := h.size.ab
    show y.S.length ≤ _
    omega) (by rw [List.length_map]; have := h.n4; omega)
  rwa [h.fine hn hsp] at this
end Go.Proofs.YtkgojnjlfkijiaaGreat
