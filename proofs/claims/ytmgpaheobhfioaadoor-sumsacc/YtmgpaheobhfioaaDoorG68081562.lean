/- The statement SumsAcc: its drawn regions that append. (gen_sacd.py) -/
import Derived.Test.YtmgpaheobhfioaaDoorGc2145f97
import Derived.Test.YtmgpaheobhfioaaDoorGc6c2317b
import Derived.Test.YtmgpaheobhfioaaDoorG24259f96
namespace Go.Proofs.YtmgpaheobhfioaaDoor
open Go.RowKit
set_option linter.unusedVariables false
set_option linter.unusedSimpArgs false
set_option maxRecDepth 100000

section
variable {P : Program} {ρ : Operand → Value} {x : World} {d : Option Tmp} {ty : TypeId} {ps : String} {af : Array Edge} {g : Option (Nat × Bool)}
theorem run_ixA {i j B k : Nat} (h : ρ (.tmp i) = .slice (some ⟨B, 0, none⟩) 3 3) (h' : ρ (.tmp j) = .int .i64 (k : Int)) (hk : k < 3) : (execOp ρ { dst := d, op := .indexAddr 28 (.tmp i) (.tmp j), type := ty, pos := ps, after := af, guard := g }).run Tryd.prog x = .ok (.value (.pointer (some ⟨B, k, none⟩))) x := by
  have h3 : (k : Int) < 3 := by omega
  simp [execOp, h, h', go_sem, h3]
theorem run_ldA {j : Nat} {p : Addr} {v : Value} (h : ρ (.tmp j) = .pointer (some p)) (c : x.cell? p = some v) : (execOp ρ { dst := d, op := .load 29 (.tmp j), type := ty, pos := ps, after := af, guard := g }).run Tryd.prog x = .ok (.value v) x := by
  simp [execOp, h, go_sem, c]
theorem run_lenA {j n c : Nat} {a : Option Addr} (h : ρ (.tmp j) = .slice a n c) : (execOp ρ { dst := d, op := .call { callee := .builtin .len, args := #[.tmp j], argTypes := #[29] }, type := ty, pos := ps, after := af, guard := g }).run Tryd.prog x = .ok (.value (.int .i64 (n : Int))) x := by
  simp [execOp, h, go_sem]
theorem run_slA {i j k n c : Nat} {a : Option Addr} (h : ρ (.tmp i) = .slice a n c) (h' : ρ (.tmp j) = .int .i64 (n : Int)) (h'' : ρ (.tmp k) = .int .i64 (n : Int)) (hc : n ≤ c) (hz : a = none → n = 0 ∧ c = 0) : (execOp ρ { dst := d, op := .slice 29 (.tmp i) none (some (.tmp j)) (some (.tmp k)), type := ty, pos := ps, after := af, guard := g }).run Tryd.prog x = .ok (.value (.slice a n n)) x := by
  cases a with
  | none =>
    obtain ⟨rfl, rfl⟩ := hz rfl
    simp [execOp, h, h', h'', go_sem]
  | some p =>
    simp [execOp, h, h', h'', go_sem, hc]
theorem run_faA {j b : Nat} (h : ρ (.tmp j) = .pointer (some ⟨b, 0, none⟩)) : (execOp ρ { dst := d, op := .fieldAddr 31 (.tmp j) 3, type := ty, pos := ps, after := af, guard := g }).run Tryd.prog x = .ok (.value (.pointer (some ⟨b, 3, none⟩))) x := by
  simp [execOp, h, go_sem]
theorem run_stA {i j b k n c : Nat} {a : Option Addr} {u : Value} (h : ρ (.tmp i) = .pointer (some ⟨b, k, none⟩)) (h' : ρ (.tmp j) = .slice a n c) (hc : x.cell? ⟨b, k, none⟩ = some u) (hf : x.frozen? ⟨b, k, none⟩ = false) : (execOp ρ { dst := d, op := .store 29 (.tmp i) (.tmp j), type := ty, pos := ps, after := af, guard := g }).run Tryd.prog x = .ok .skip (x.setCell ⟨b, k, none⟩ (.slice a n c)) := by
  simp [execOp, h, h', go_sem, hc, hf]
end
theorem run_apo {P : Program} {A : Act} {o : Oper} {x x' : World} {s u : Nat} {t : TypeId} (ho : o.op = .call { callee := .builtin .append, args := #[.tmp s, .tmp u], argTypes := #[t, t] }) {v v' r : Value} (hs : A.eval (.tmp s) = v) (hu : A.eval (.tmp u) = v') (hr : (Builtin.append_ #[t, t] o.type #[v, v']).run P x = .ok r x') : (execOp A.eval o).run P x = .ok (.value r) x' := by
  unfold execOp
  simp only [ho, resolve, invoke, builtin, Sem.run_bind, Sem.run_pure, Result.andThen_ok, List.map_toArray, List.map_cons, List.map_nil, hs, hu, hr]
/-- What an append has told. -/
def spAp (aX : Option Addr) (m n0 nS : Nat) (Z : List Nat) : Spec := ⟨fun v x => ∃ la lc, v = .slice la m lc ∧ USl x (.slice la m lc) Z ∧ (∀ g o, la = some ⟨g, o, none⟩ → n0 ≤ g ∨ (la = aX ∧ nS = 0)) ∧ m ≤ lc ∧ (la = none → m = 0 ∧ lc = 0), fun ⟨la, lc, h1, h2, h3⟩ q => ⟨la, lc, h1, h2.next q, h3⟩⟩
def oA8_0 : Oper := { dst := some 56, op := .move (.tmp 4), type := 28, pos := "exact.go:159", after := #[], guard := none }
def oA8_1 : Oper := { dst := some 57, op := .move (.tmp 7), type := 3, pos := "exact.go:159", after := #[], guard := none }
def oA8_2 : Oper := { dst := some 58, op := .move (.tmp 4), type := 28, pos := "exact.go:159", after := #[], guard := none }
def oA8_3 : Oper := { dst := some 59, op := .move (.tmp 7), type := 3, pos := "exact.go:159", after := #[], guard := none }
def oA8_4 : Oper := { dst := some 60, op := .indexAddr 28 (.tmp 58) (.tmp 59), type := 0, pos := "exact.go:159", after := #[⟨2, .data⟩, ⟨3, .data⟩], guard := none }
def oA8_5 : Oper := { dst := some 61, op := .load 29 (.tmp 60), type := 29, pos := "exact.go:159", after := #[⟨4, .data⟩], guard := none }
def oA8_6 : Oper := { dst := some 62, op := .move (.tmp 4), type := 28, pos := "exact.go:159", after := #[], guard := none }
def oA8_7 : Oper := { dst := some 63, op := .move (.tmp 7), type := 3, pos := "exact.go:159", after := #[], guard := none }
def oA8_8 : Oper := { dst := some 64, op := .indexAddr 28 (.tmp 62) (.tmp 63), type := 0, pos := "exact.go:159", after := #[⟨6, .data⟩, ⟨7, .data⟩], guard := none }
def oA8_9 : Oper := { dst := some 65, op := .load 29 (.tmp 64), type := 29, pos := "exact.go:159", after := #[⟨8, .data⟩], guard := none }
def oA8_10 : Oper := { dst := some 66, op := .call { callee := .builtin .len, args := #[.tmp 65], argTypes := #[29] }, type := 3, pos := "exact.go:159", after := #[⟨9, .data⟩], guard := none }
def oA8_11 : Oper := { dst := some 67, op := .move (.tmp 4), type := 28, pos := "exact.go:159", after := #[], guard := none }
def oA8_12 : Oper := { dst := some 68, op := .move (.tmp 7), type := 3, pos := "exact.go:159", after := #[], guard := none }
def oA8_13 : Oper := { dst := some 69, op := .indexAddr 28 (.tmp 67) (.tmp 68), type := 0, pos := "exact.go:159", after := #[⟨11, .data⟩, ⟨12, .data⟩], guard := none }
def oA8_14 : Oper := { dst := some 70, op := .load 29 (.tmp 69), type := 29, pos := "exact.go:159", after := #[⟨13, .data⟩], guard := none }
def oA8_15 : Oper := { dst := some 71, op := .call { callee := .builtin .len, args := #[.tmp 70], argTypes := #[29] }, type := 3, pos := "exact.go:159", after := #[⟨14, .data⟩], guard := none }
def oA8_16 : Oper := { dst := some 72, op := .slice 29 (.tmp 61) none (some (.tmp 66)) (some (.tmp 71)), type := 29, pos := "exact.go:159", after := #[⟨5, .data⟩, ⟨10, .data⟩, ⟨15, .data⟩], guard := none }
def oA8_17 : Oper := { dst := some 73, op := .fieldAddr 31 (.tmp 6) 3, type := 0, pos := "exact.go:159", after := #[], guard := none }
def oA8_18 : Oper := { dst := some 74, op := .load 29 (.tmp 73), type := 29, pos := "exact.go:159", after := #[⟨17, .data⟩], guard := none }
def oA8_19 : Oper := { dst := some 75, op := .call { callee := .builtin .append, args := #[.tmp 72, .tmp 74], argTypes := #[29, 29] }, type := 29, pos := "exact.go:159", after := #[⟨16, .data⟩, ⟨18, .data⟩], guard := none }
def oA8_20 : Oper := { dst := some 76, op := .indexAddr 28 (.tmp 56) (.tmp 57), type := 0, pos := "exact.go:159", after := #[⟨0, .data⟩, ⟨1, .data⟩, ⟨0, .phase⟩, ⟨1, .phase⟩, ⟨2, .phase⟩, ⟨3, .phase⟩, ⟨4, .phase⟩, ⟨5, .phase⟩, ⟨6, .phase⟩, ⟨7, .phase⟩, ⟨8, .phase⟩, ⟨9, .phase⟩, ⟨10, .phase⟩, ⟨11, .phase⟩, ⟨12, .phase⟩, ⟨13, .phase⟩, ⟨14, .phase⟩, ⟨15, .phase⟩, ⟨16, .phase⟩, ⟨17, .phase⟩, ⟨18, .phase⟩, ⟨19, .phase⟩], guard := none }
def oA8_21 : Oper := { dst := none, op := .store 29 (.tmp 76) (.tmp 75), type := 0, pos := "exact.go:159", after := #[⟨20, .data⟩, ⟨19, .data⟩, ⟨19, .chain⟩, ⟨0, .phase⟩, ⟨1, .phase⟩, ⟨2, .phase⟩, ⟨3, .phase⟩, ⟨4, .phase⟩, ⟨5, .phase⟩, ⟨6, .phase⟩, ⟨7, .phase⟩, ⟨8, .phase⟩, ⟨9, .phase⟩, ⟨10, .phase⟩, ⟨11, .phase⟩, ⟨12, .phase⟩, ⟨13, .phase⟩, ⟨14, .phase⟩, ⟨15, .phase⟩, ⟨16, .phase⟩, ⟨17, .phase⟩, ⟨18, .phase⟩, ⟨19, .phase⟩], guard := none }
def opsA8 : List Oper := [oA8_0, oA8_1, oA8_2, oA8_3, oA8_4, oA8_5, oA8_6, oA8_7, oA8_8, oA8_9, oA8_10, oA8_11, oA8_12, oA8_13, oA8_14, oA8_15, oA8_16, oA8_17, oA8_18, oA8_19, oA8_20, oA8_21]
def sA8 : List Nat := [56, 57, 58, 59, 60, 61, 62, 63, 64, 65, 66, 67, 68, 69, 70, 71, 72, 73, 74, 75, 76]
def spA8 (BO k B6 k2 : Nat) (aX aS : Option Addr) (nX cX nS cS n0 : Nat) (X S : List Nat) : List Spec := [spV (.slice (some ⟨BO, 0, none⟩) 3 3), spV (.int .i64 (k : Int)), spV (.slice (some ⟨BO, 0, none⟩) 3 3), spV (.int .i64 (k : Int)), spV (.pointer (some ⟨BO, k, none⟩)), spV (.slice aX nX cX), spV (.slice (some ⟨BO, 0, none⟩) 3 3), spV (.int .i64 (k : Int)), spV (.pointer (some ⟨BO, k, none⟩)), spV (.slice aX nX cX), spV (.int .i64 (nX : Int)), spV (.slice (some ⟨BO, 0, none⟩) 3 3), spV (.int .i64 (k : Int)), spV (.pointer (some ⟨BO, k, none⟩)), spV (.slice aX nX cX), spV (.int .i64 (nX : Int)), spV (.slice aX nX nX), spV (.pointer (some ⟨B6, 3, none⟩)), spV (.slice aS nS cS), spAp aX (nX + nS) n0 nS (X ++ S), spV (.pointer (some ⟨BO, k, none⟩))]
structure EnvA8 (a0 : Act) (w : World) (BO k B6 k2 : Nat) (aX aS : Option Addr) (nX cX nS cS n0 : Nat) (X S : List Nat) : Prop where
  h4 : a0.tmps[4]? = some (.slice (some ⟨BO, 0, none⟩) 3 3)
  h7 : a0.tmps[7]? = some (.int .i64 (k : Int))
  hk : k < 3
  cx : w.cell? ⟨BO, k, none⟩ = some (.slice aX nX cX)
  uc : USl w (.slice aX nX nX) X
  us : USl w (.slice aS nS cS) S
  lx : X.length = nX
  ls : S.length = nS
  bd : nX + nS ≤ 100000
  cap : nX ≤ cX
  nz : aX = none → nX = 0 ∧ cX = 0
  n0 : w.heap.size = n0
  fo : ∀ j, w.frozen? ⟨BO, j, none⟩ = false
  h6 : a0.tmps[6]? = some (.pointer (some ⟨B6, 0, none⟩))
  cs : w.cell? ⟨B6, 3, none⟩ = some (.slice aS nS cS)
theorem yA8_0 {a0 : Act} {w : World} {BO k B6 k2 : Nat} {aX aS : Option Addr} {nX cX nS cS n0 : Nat} {X S : List Nat} (E : EnvA8 a0 w BO k B6 k2 aX aS nX cX nS cS n0 X S) {R : Exit → Act → World → Prop} {a : Act} {x : World} (q : Q w x) (oth : ∀ j, j ∉ sA8 → a.tmps[j]? = a0.tmps[j]?) (dep : ∀ ed ∈ oA8_0.after, Region.binds .any ed = true → ∀ t', sA8[ed.on]? = some t' → ∃ v, a.tmps[t']? = some v ∧ specAt (spA8 BO k B6 k2 aX aS nX cX nS cS n0 X S) ed.on v x) : Yld Tryd.prog R oA8_0 a x 56 (fun v x' => specAt (spA8 BO k B6 k2 aX aS nX cX nS cS n0 X S) 0 v x' ∧ (0 ∈ ([] : List Nat) → v = ptrV x.heap.size)) := by
  exact yld_move ((oth 4 (by decide)).trans E.h4) ⟨rfl, fun h => absurd h (by decide)⟩
theorem yA8_1 {a0 : Act} {w : World} {BO k B6 k2 : Nat} {aX aS : Option Addr} {nX cX nS cS n0 : Nat} {X S : List Nat} (E : EnvA8 a0 w BO k B6 k2 aX aS nX cX nS cS n0 X S) {R : Exit → Act → World → Prop} {a : Act} {x : World} (q : Q w x) (oth : ∀ j, j ∉ sA8 → a.tmps[j]? = a0.tmps[j]?) (dep : ∀ ed ∈ oA8_1.after, Region.binds .any ed = true → ∀ t', sA8[ed.on]? = some t' → ∃ v, a.tmps[t']? = some v ∧ specAt (spA8 BO k B6 k2 aX aS nX cX nS cS n0 X S) ed.on v x) : Yld Tryd.prog R oA8_1 a x 57 (fun v x' => specAt (spA8 BO k B6 k2 aX aS nX cX nS cS n0 X S) 1 v x' ∧ (1 ∈ ([] : List Nat) → v = ptrV x.heap.size)) := by
  exact yld_move ((oth 7 (by decide)).trans E.h7) ⟨rfl, fun h => absurd h (by decide)⟩
theorem yA8_2 {a0 : Act} {w : World} {BO k B6 k2 : Nat} {aX aS : Option Addr} {nX cX nS cS n0 : Nat} {X S : List Nat} (E : EnvA8 a0 w BO k B6 k2 aX aS nX cX nS cS n0 X S) {R : Exit → Act → World → Prop} {a : Act} {x : World} (q : Q w x) (oth : ∀ j, j ∉ sA8 → a.tmps[j]? = a0.tmps[j]?) (dep : ∀ ed ∈ oA8_2.after, Region.binds .any ed = true → ∀ t', sA8[ed.on]? = some t' → ∃ v, a.tmps[t']? = some v ∧ specAt (spA8 BO k B6 k2 aX aS nX cX nS cS n0 X S) ed.on v x) : Yld Tryd.prog R oA8_2 a x 58 (fun v x' => specAt (spA8 BO k B6 k2 aX aS nX cX nS cS n0 X S) 2 v x' ∧ (2 ∈ ([] : List Nat) → v = ptrV x.heap.size)) := by
  exact yld_move ((oth 4 (by decide)).trans E.h4) ⟨rfl, fun h => absurd h (by decide)⟩
theorem yA8_3 {a0 : Act} {w : World} {BO k B6 k2 : Nat} {aX aS : Option Addr} {nX cX nS cS n0 : Nat} {X S : List Nat} (E : EnvA8 a0 w BO k B6 k2 aX aS nX cX nS cS n0 X S) {R : Exit → Act → World → Prop} {a : Act} {x : World} (q : Q w x) (oth : ∀ j, j ∉ sA8 → a.tmps[j]? = a0.tmps[j]?) (dep : ∀ ed ∈ oA8_3.after, Region.binds .any ed = true → ∀ t', sA8[ed.on]? = some t' → ∃ v, a.tmps[t']? = some v ∧ specAt (spA8 BO k B6 k2 aX aS nX cX nS cS n0 X S) ed.on v x) : Yld Tryd.prog R oA8_3 a x 59 (fun v x' => specAt (spA8 BO k B6 k2 aX aS nX cX nS cS n0 X S) 3 v x' ∧ (3 ∈ ([] : List Nat) → v = ptrV x.heap.size)) := by
  exact yld_move ((oth 7 (by decide)).trans E.h7) ⟨rfl, fun h => absurd h (by decide)⟩
theorem yA8_4 {a0 : Act} {w : World} {BO k B6 k2 : Nat} {aX aS : Option Addr} {nX cX nS cS n0 : Nat} {X S : List Nat} (E : EnvA8 a0 w BO k B6 k2 aX aS nX cX nS cS n0 X S) {R : Exit → Act → World → Prop} {a : Act} {x : World} (q : Q w x) (oth : ∀ j, j ∉ sA8 → a.tmps[j]? = a0.tmps[j]?) (dep : ∀ ed ∈ oA8_4.after, Region.binds .any ed = true → ∀ t', sA8[ed.on]? = some t' → ∃ v, a.tmps[t']? = some v ∧ specAt (spA8 BO k B6 k2 aX aS nX cX nS cS n0 X S) ed.on v x) : Yld Tryd.prog R oA8_4 a x 60 (fun v x' => specAt (spA8 BO k B6 k2 aX aS nX cX nS cS n0 X S) 4 v x' ∧ (4 ∈ ([] : List Nat) → v = ptrV x.heap.size)) := by
  obtain ⟨v2, t2, f2⟩ := dep ⟨2, .data⟩ (by simp [oA8_4]) rfl 58 rfl
  have f2 : v2 = (.slice (some ⟨BO, 0, none⟩) 3 3) := f2
  subst f2
  obtain ⟨v3, t3, f3⟩ := dep ⟨3, .data⟩ (by simp [oA8_4]) rfl 59 rfl
  have f3 : v3 = (.int .i64 (k : Int)) := f3
  subst f3
  exact yld_run (x' := x) rfl (run_ixA (tmp_eval t2) (tmp_eval t3) E.hk) (Q.refl x) ⟨rfl, fun h => absurd h (by decide)⟩
theorem yA8_5 {a0 : Act} {w : World} {BO k B6 k2 : Nat} {aX aS : Option Addr} {nX cX nS cS n0 : Nat} {X S : List Nat} (E : EnvA8 a0 w BO k B6 k2 aX aS nX cX nS cS n0 X S) {R : Exit → Act → World → Prop} {a : Act} {x : World} (q : Q w x) (oth : ∀ j, j ∉ sA8 → a.tmps[j]? = a0.tmps[j]?) (dep : ∀ ed ∈ oA8_5.after, Region.binds .any ed = true → ∀ t', sA8[ed.on]? = some t' → ∃ v, a.tmps[t']? = some v ∧ specAt (spA8 BO k B6 k2 aX aS nX cX nS cS n0 X S) ed.on v x) : Yld Tryd.prog R oA8_5 a x 61 (fun v x' => specAt (spA8 BO k B6 k2 aX aS nX cX nS cS n0 X S) 5 v x' ∧ (5 ∈ ([] : List Nat) → v = ptrV x.heap.size)) := by
  obtain ⟨v4, t4, f4⟩ := dep ⟨4, .data⟩ (by simp [oA8_5]) rfl 60 rfl
  have f4 : v4 = (.pointer (some ⟨BO, k, none⟩)) := f4
  subst f4
  exact yld_run (x' := x) rfl (run_ldA (tmp_eval t4) (q.cell E.cx)) (Q.refl x) ⟨rfl, fun h => absurd h (by decide)⟩
theorem yA8_6 {a0 : Act} {w : World} {BO k B6 k2 : Nat} {aX aS : Option Addr} {nX cX nS cS n0 : Nat} {X S : List Nat} (E : EnvA8 a0 w BO k B6 k2 aX aS nX cX nS cS n0 X S) {R : Exit → Act → World → Prop} {a : Act} {x : World} (q : Q w x) (oth : ∀ j, j ∉ sA8 → a.tmps[j]? = a0.tmps[j]?) (dep : ∀ ed ∈ oA8_6.after, Region.binds .any ed = true → ∀ t', sA8[ed.on]? = some t' → ∃ v, a.tmps[t']? = some v ∧ specAt (spA8 BO k B6 k2 aX aS nX cX nS cS n0 X S) ed.on v x) : Yld Tryd.prog R oA8_6 a x 62 (fun v x' => specAt (spA8 BO k B6 k2 aX aS nX cX nS cS n0 X S) 6 v x' ∧ (6 ∈ ([] : List Nat) → v = ptrV x.heap.size)) := by
  exact yld_move ((oth 4 (by decide)).trans E.h4) ⟨rfl, fun h => absurd h (by decide)⟩
theorem yA8_7 {a0 : Act} {w : World} {BO k B6 k2 : Nat} {aX aS : Option Addr} {nX cX nS cS n0 : Nat} {X S : List Nat} (E : EnvA8 a0 w BO k B6 k2 aX aS nX cX nS cS n0 X S) {R : Exit → Act → World → Prop} {a : Act} {x : World} (q : Q w x) (oth : ∀ j, j ∉ sA8 → a.tmps[j]? = a0.tmps[j]?) (dep : ∀ ed ∈ oA8_7.after, Region.binds .any ed = true → ∀ t', sA8[ed.on]? = some t' → ∃ v, a.tmps[t']? = some v ∧ specAt (spA8 BO k B6 k2 aX aS nX cX nS cS n0 X S) ed.on v x) : Yld Tryd.prog R oA8_7 a x 63 (fun v x' => specAt (spA8 BO k B6 k2 aX aS nX cX nS cS n0 X S) 7 v x' ∧ (7 ∈ ([] : List Nat) → v = ptrV x.heap.size)) := by
  exact yld_move ((oth 7 (by decide)).trans E.h7) ⟨rfl, fun h => absurd h (by decide)⟩
theorem yA8_8 {a0 : Act} {w : World} {BO k B6 k2 : Nat} {aX aS : Option Addr} {nX cX nS cS n0 : Nat} {X S : List Nat} (E : EnvA8 a0 w BO k B6 k2 aX aS nX cX nS cS n0 X S) {R : Exit → Act → World → Prop} {a : Act} {x : World} (q : Q w x) (oth : ∀ j, j ∉ sA8 → a.tmps[j]? = a0.tmps[j]?) (dep : ∀ ed ∈ oA8_8.after, Region.binds .any ed = true → ∀ t', sA8[ed.on]? = some t' → ∃ v, a.tmps[t']? = some v ∧ specAt (spA8 BO k B6 k2 aX aS nX cX nS cS n0 X S) ed.on v x) : Yld Tryd.prog R oA8_8 a x 64 (fun v x' => specAt (spA8 BO k B6 k2 aX aS nX cX nS cS n0 X S) 8 v x' ∧ (8 ∈ ([] : List Nat) → v = ptrV x.heap.size)) := by
  obtain ⟨v6, t6, f6⟩ := dep ⟨6, .data⟩ (by simp [oA8_8]) rfl 62 rfl
  have f6 : v6 = (.slice (some ⟨BO, 0, none⟩) 3 3) := f6
  subst f6
  obtain ⟨v7, t7, f7⟩ := dep ⟨7, .data⟩ (by simp [oA8_8]) rfl 63 rfl
  have f7 : v7 = (.int .i64 (k : Int)) := f7
  subst f7
  exact yld_run (x' := x) rfl (run_ixA (tmp_eval t6) (tmp_eval t7) E.hk) (Q.refl x) ⟨rfl, fun h => absurd h (by decide)⟩
theorem yA8_9 {a0 : Act} {w : World} {BO k B6 k2 : Nat} {aX aS : Option Addr} {nX cX nS cS n0 : Nat} {X S : List Nat} (E : EnvA8 a0 w BO k B6 k2 aX aS nX cX nS cS n0 X S) {R : Exit → Act → World → Prop} {a : Act} {x : World} (q : Q w x) (oth : ∀ j, j ∉ sA8 → a.tmps[j]? = a0.tmps[j]?) (dep : ∀ ed ∈ oA8_9.after, Region.binds .any ed = true → ∀ t', sA8[ed.on]? = some t' → ∃ v, a.tmps[t']? = some v ∧ specAt (spA8 BO k B6 k2 aX aS nX cX nS cS n0 X S) ed.on v x) : Yld Tryd.prog R oA8_9 a x 65 (fun v x' => specAt (spA8 BO k B6 k2 aX aS nX cX nS cS n0 X S) 9 v x' ∧ (9 ∈ ([] : List Nat) → v = ptrV x.heap.size)) := by
  obtain ⟨v8, t8, f8⟩ := dep ⟨8, .data⟩ (by simp [oA8_9]) rfl 64 rfl
  have f8 : v8 = (.pointer (some ⟨BO, k, none⟩)) := f8
  subst f8
  exact yld_run (x' := x) rfl (run_ldA (tmp_eval t8) (q.cell E.cx)) (Q.refl x) ⟨rfl, fun h => absurd h (by decide)⟩
theorem yA8_10 {a0 : Act} {w : World} {BO k B6 k2 : Nat} {aX aS : Option Addr} {nX cX nS cS n0 : Nat} {X S : List Nat} (E : EnvA8 a0 w BO k B6 k2 aX aS nX cX nS cS n0 X S) {R : Exit → Act → World → Prop} {a : Act} {x : World} (q : Q w x) (oth : ∀ j, j ∉ sA8 → a.tmps[j]? = a0.tmps[j]?) (dep : ∀ ed ∈ oA8_10.after, Region.binds .any ed = true → ∀ t', sA8[ed.on]? = some t' → ∃ v, a.tmps[t']? = some v ∧ specAt (spA8 BO k B6 k2 aX aS nX cX nS cS n0 X S) ed.on v x) : Yld Tryd.prog R oA8_10 a x 66 (fun v x' => specAt (spA8 BO k B6 k2 aX aS nX cX nS cS n0 X S) 10 v x' ∧ (10 ∈ ([] : List Nat) → v = ptrV x.heap.size)) := by
  obtain ⟨v9, t9, f9⟩ := dep ⟨9, .data⟩ (by simp [oA8_10]) rfl 65 rfl
  have f9 : v9 = (.slice aX nX cX) := f9
  subst f9
  exact yld_run (x' := x) rfl (run_lenA (tmp_eval t9)) (Q.refl x) ⟨rfl, fun h => absurd h (by decide)⟩
theorem yA8_11 {a0 : Act} {w : World} {BO k B6 k2 : Nat} {aX aS : Option Addr} {nX cX nS cS n0 : Nat} {X S : List Nat} (E : EnvA8 a0 w BO k B6 k2 aX aS nX cX nS cS n0 X S) {R : Exit → Act → World → Prop} {a : Act} {x : World} (q : Q w x) (oth : ∀ j, j ∉ sA8 → a.tmps[j]? = a0.tmps[j]?) (dep : ∀ ed ∈ oA8_11.after, Region.binds .any ed = true → ∀ t', sA8[ed.on]? = some t' → ∃ v, a.tmps[t']? = some v ∧ specAt (spA8 BO k B6 k2 aX aS nX cX nS cS n0 X S) ed.on v x) : Yld Tryd.prog R oA8_11 a x 67 (fun v x' => specAt (spA8 BO k B6 k2 aX aS nX cX nS cS n0 X S) 11 v x' ∧ (11 ∈ ([] : List Nat) → v = ptrV x.heap.size)) := by
  exact yld_move ((oth 4 (by decide)).trans E.h4) ⟨rfl, fun h => absurd h (by decide)⟩
theorem yA8_12 {a0 : Act} {w : World} {BO k B6 k2 : Nat} {aX aS : Option Addr} {nX cX nS cS n0 : Nat} {X S : List Nat} (E : EnvA8 a0 w BO k B6 k2 aX aS nX cX nS cS n0 X S) {R : Exit → Act → World → Prop} {a : Act} {x : World} (q : Q w x) (oth : ∀ j, j ∉ sA8 → a.tmps[j]? = a0.tmps[j]?) (dep : ∀ ed ∈ oA8_12.after, Region.binds .any ed = true → ∀ t', sA8[ed.on]? = some t' → ∃ v, a.tmps[t']? = some v ∧ specAt (spA8 BO k B6 k2 aX aS nX cX nS cS n0 X S) ed.on v x) : Yld Tryd.prog R oA8_12 a x 68 (fun v x' => specAt (spA8 BO k B6 k2 aX aS nX cX nS cS n0 X S) 12 v x' ∧ (12 ∈ ([] : List Nat) → v = ptrV x.heap.size)) := by
  exact yld_move ((oth 7 (by decide)).trans E.h7) ⟨rfl, fun h => absurd h (by decide)⟩
theorem yA8_13 {a0 : Act} {w : World} {BO k B6 k2 : Nat} {aX aS : Option Addr} {nX cX nS cS n0 : Nat} {X S : List Nat} (E : EnvA8 a0 w BO k B6 k2 aX aS nX cX nS cS n0 X S) {R : Exit → Act → World → Prop} {a : Act} {x : World} (q : Q w x) (oth : ∀ j, j ∉ sA8 → a.tmps[j]? = a0.tmps[j]?) (dep : ∀ ed ∈ oA8_13.after, Region.binds .any ed = true → ∀ t', sA8[ed.on]? = some t' → ∃ v, a.tmps[t']? = some v ∧ specAt (spA8 BO k B6 k2 aX aS nX cX nS cS n0 X S) ed.on v x) : Yld Tryd.prog R oA8_13 a x 69 (fun v x' => specAt (spA8 BO k B6 k2 aX aS nX cX nS cS n0 X S) 13 v x' ∧ (13 ∈ ([] : List Nat) → v = ptrV x.heap.size)) := by
  obtain ⟨v11, t11, f11⟩ := dep ⟨11, .data⟩ (by simp [oA8_13]) rfl 67 rfl
  have f11 : v11 = (.slice (some ⟨BO, 0, none⟩) 3 3) := f11
  subst f11
  obtain ⟨v12, t12, f12⟩ := dep ⟨12, .data⟩ (by simp [oA8_13]) rfl 68 rfl
  have f12 : v12 = (.int .i64 (k : Int)) := f12
  subst f12
  exact yld_run (x' := x) rfl (run_ixA (tmp_eval t11) (tmp_eval t12) E.hk) (Q.refl x) ⟨rfl, fun h => absurd h (by decide)⟩
theorem yA8_14 {a0 : Act} {w : World} {BO k B6 k2 : Nat} {aX aS : Option Addr} {nX cX nS cS n0 : Nat} {X S : List Nat} (E : EnvA8 a0 w BO k B6 k2 aX aS nX cX nS cS n0 X S) {R : Exit → Act → World → Prop} {a : Act} {x : World} (q : Q w x) (oth : ∀ j, j ∉ sA8 → a.tmps[j]? = a0.tmps[j]?) (dep : ∀ ed ∈ oA8_14.after, Region.binds .any ed = true → ∀ t', sA8[ed.on]? = some t' → ∃ v, a.tmps[t']? = some v ∧ specAt (spA8 BO k B6 k2 aX aS nX cX nS cS n0 X S) ed.on v x) : Yld Tryd.prog R oA8_14 a x 70 (fun v x' => specAt (spA8 BO k B6 k2 aX aS nX cX nS cS n0 X S) 14 v x' ∧ (14 ∈ ([] : List Nat) → v = ptrV x.heap.size)) := by
  obtain ⟨v13, t13, f13⟩ := dep ⟨13, .data⟩ (by simp [oA8_14]) rfl 69 rfl
  have f13 : v13 = (.pointer (some ⟨BO, k, none⟩)) := f13
  subst f13
  exact yld_run (x' := x) rfl (run_ldA (tmp_eval t13) (q.cell E.cx)) (Q.refl x) ⟨rfl, fun h => absurd h (by decide)⟩
theorem yA8_15 {a0 : Act} {w : World} {BO k B6 k2 : Nat} {aX aS : Option Addr} {nX cX nS cS n0 : Nat} {X S : List Nat} (E : EnvA8 a0 w BO k B6 k2 aX aS nX cX nS cS n0 X S) {R : Exit → Act → World → Prop} {a : Act} {x : World} (q : Q w x) (oth : ∀ j, j ∉ sA8 → a.tmps[j]? = a0.tmps[j]?) (dep : ∀ ed ∈ oA8_15.after, Region.binds .any ed = true → ∀ t', sA8[ed.on]? = some t' → ∃ v, a.tmps[t']? = some v ∧ specAt (spA8 BO k B6 k2 aX aS nX cX nS cS n0 X S) ed.on v x) : Yld Tryd.prog R oA8_15 a x 71 (fun v x' => specAt (spA8 BO k B6 k2 aX aS nX cX nS cS n0 X S) 15 v x' ∧ (15 ∈ ([] : List Nat) → v = ptrV x.heap.size)) := by
  obtain ⟨v14, t14, f14⟩ := dep ⟨14, .data⟩ (by simp [oA8_15]) rfl 70 rfl
  have f14 : v14 = (.slice aX nX cX) := f14
  subst f14
  exact yld_run (x' := x) rfl (run_lenA (tmp_eval t14)) (Q.refl x) ⟨rfl, fun h => absurd h (by decide)⟩
theorem yA8_16 {a0 : Act} {w : World} {BO k B6 k2 : Nat} {aX aS : Option Addr} {nX cX nS cS n0 : Nat} {X S : List Nat} (E : EnvA8 a0 w BO k B6 k2 aX aS nX cX nS cS n0 X S) {R : Exit → Act → World → Prop} {a : Act} {x : World} (q : Q w x) (oth : ∀ j, j ∉ sA8 → a.tmps[j]? = a0.tmps[j]?) (dep : ∀ ed ∈ oA8_16.after, Region.binds .any ed = true → ∀ t', sA8[ed.on]? = some t' → ∃ v, a.tmps[t']? = some v ∧ specAt (spA8 BO k B6 k2 aX aS nX cX nS cS n0 X S) ed.on v x) : Yld Tryd.prog R oA8_16 a x 72 (fun v x' => specAt (spA8 BO k B6 k2 aX aS nX cX nS cS n0 X S) 16 v x' ∧ (16 ∈ ([] : List Nat) → v = ptrV x.heap.size)) := by
  obtain ⟨v5, t5, f5⟩ := dep ⟨5, .data⟩ (by simp [oA8_16]) rfl 61 rfl
  have f5 : v5 = (.slice aX nX cX) := f5
  subst f5
  obtain ⟨v10, t10, f10⟩ := dep ⟨10, .data⟩ (by simp [oA8_16]) rfl 66 rfl
  have f10 : v10 = (.int .i64 (nX : Int)) := f10
  subst f10
  obtain ⟨v15, t15, f15⟩ := dep ⟨15, .data⟩ (by simp [oA8_16]) rfl 71 rfl
  have f15 : v15 = (.int .i64 (nX : Int)) := f15
  subst f15
  exact yld_run (x' := x) rfl (run_slA (tmp_eval t5) (tmp_eval t10) (tmp_eval t15) E.cap E.nz) (Q.refl x) ⟨rfl, fun h => absurd h (by decide)⟩
theorem yA8_17 {a0 : Act} {w : World} {BO k B6 k2 : Nat} {aX aS : Option Addr} {nX cX nS cS n0 : Nat} {X S : List Nat} (E : EnvA8 a0 w BO k B6 k2 aX aS nX cX nS cS n0 X S) {R : Exit → Act → World → Prop} {a : Act} {x : World} (q : Q w x) (oth : ∀ j, j ∉ sA8 → a.tmps[j]? = a0.tmps[j]?) (dep : ∀ ed ∈ oA8_17.after, Region.binds .any ed = true → ∀ t', sA8[ed.on]? = some t' → ∃ v, a.tmps[t']? = some v ∧ specAt (spA8 BO k B6 k2 aX aS nX cX nS cS n0 X S) ed.on v x) : Yld Tryd.prog R oA8_17 a x 73 (fun v x' => specAt (spA8 BO k B6 k2 aX aS nX cX nS cS n0 X S) 17 v x' ∧ (17 ∈ ([] : List Nat) → v = ptrV x.heap.size)) := by
  exact yld_run (x' := x) rfl (run_faA (tmp_eval ((oth 6 (by decide)).trans E.h6))) (Q.refl x) ⟨rfl, fun h => absurd h (by decide)⟩
theorem yA8_18 {a0 : Act} {w : World} {BO k B6 k2 : Nat} {aX aS : Option Addr} {nX cX nS cS n0 : Nat} {X S : List Nat} (E : EnvA8 a0 w BO k B6 k2 aX aS nX cX nS cS n0 X S) {R : Exit → Act → World → Prop} {a : Act} {x : World} (q : Q w x) (oth : ∀ j, j ∉ sA8 → a.tmps[j]? = a0.tmps[j]?) (dep : ∀ ed ∈ oA8_18.after, Region.binds .any ed = true → ∀ t', sA8[ed.on]? = some t' → ∃ v, a.tmps[t']? = some v ∧ specAt (spA8 BO k B6 k2 aX aS nX cX nS cS n0 X S) ed.on v x) : Yld Tryd.prog R oA8_18 a x 74 (fun v x' => specAt (spA8 BO k B6 k2 aX aS nX cX nS cS n0 X S) 18 v x' ∧ (18 ∈ ([] : List Nat) → v = ptrV x.heap.size)) := by
  obtain ⟨v17, t17, f17⟩ := dep ⟨17, .data⟩ (by simp [oA8_18]) rfl 73 rfl
  have f17 : v17 = (.pointer (some ⟨B6, 3, none⟩)) := f17
  subst f17
  exact yld_run (x' := x) rfl (run_ldA (tmp_eval t17) (q.cell E.cs)) (Q.refl x) ⟨rfl, fun h => absurd h (by decide)⟩
theorem yA8_19 {a0 : Act} {w : World} {BO k B6 k2 : Nat} {aX aS : Option Addr} {nX cX nS cS n0 : Nat} {X S : List Nat} (E : EnvA8 a0 w BO k B6 k2 aX aS nX cX nS cS n0 X S) {R : Exit → Act → World → Prop} {a : Act} {x : World} (q : Q w x) (oth : ∀ j, j ∉ sA8 → a.tmps[j]? = a0.tmps[j]?) (dep : ∀ ed ∈ oA8_19.after, Region.binds .any ed = true → ∀ t', sA8[ed.on]? = some t' → ∃ v, a.tmps[t']? = some v ∧ specAt (spA8 BO k B6 k2 aX aS nX cX nS cS n0 X S) ed.on v x) : Yld Tryd.prog R oA8_19 a x 75 (fun v x' => specAt (spA8 BO k B6 k2 aX aS nX cX nS cS n0 X S) 19 v x' ∧ (19 ∈ ([] : List Nat) → v = ptrV x.heap.size)) := by
  obtain ⟨v16, t16, f16⟩ := dep ⟨16, .data⟩ (by simp [oA8_19]) rfl 72 rfl
  have f16 : v16 = (.slice aX nX nX) := f16
  subst f16
  obtain ⟨v18, t18, f18⟩ := dep ⟨18, .data⟩ (by simp [oA8_19]) rfl 74 rfl
  have f18 : v18 = (.slice aS nS cS) := f18
  subst f18
  obtain ⟨la, lc, x', hr, hq, hu, hb, hl, hz⟩ := run_apF x 29 aX nX X E.lx (E.uc.next q) aS nS cS S E.ls (E.us.next q) E.bd (fun e => (E.nz e).1)
  exact yld_run (x' := x') rfl (run_apo rfl (tmp_eval t16) (tmp_eval t18) hr) hq ⟨⟨la, lc, rfl, hu, fun g o e => (hb g o e).imp (fun h => by have := q.1.size; have := E.n0; omega) id, hl, hz⟩, fun h => absurd h (by decide)⟩
theorem yA8_20 {a0 : Act} {w : World} {BO k B6 k2 : Nat} {aX aS : Option Addr} {nX cX nS cS n0 : Nat} {X S : List Nat} (E : EnvA8 a0 w BO k B6 k2 aX aS nX cX nS cS n0 X S) {R : Exit → Act → World → Prop} {a : Act} {x : World} (q : Q w x) (oth : ∀ j, j ∉ sA8 → a.tmps[j]? = a0.tmps[j]?) (dep : ∀ ed ∈ oA8_20.after, Region.binds .any ed = true → ∀ t', sA8[ed.on]? = some t' → ∃ v, a.tmps[t']? = some v ∧ specAt (spA8 BO k B6 k2 aX aS nX cX nS cS n0 X S) ed.on v x) : Yld Tryd.prog R oA8_20 a x 76 (fun v x' => specAt (spA8 BO k B6 k2 aX aS nX cX nS cS n0 X S) 20 v x' ∧ (20 ∈ ([] : List Nat) → v = ptrV x.heap.size)) := by
  obtain ⟨v0, t0, f0⟩ := dep ⟨0, .data⟩ (by simp [oA8_20]) rfl 56 rfl
  have f0 : v0 = (.slice (some ⟨BO, 0, none⟩) 3 3) := f0
  subst f0
  obtain ⟨v1, t1, f1⟩ := dep ⟨1, .data⟩ (by simp [oA8_20]) rfl 57 rfl
  have f1 : v1 = (.int .i64 (k : Int)) := f1
  subst f1
  exact yld_run (x' := x) rfl (run_ixA (tmp_eval t0) (tmp_eval t1) E.hk) (Q.refl x) ⟨rfl, fun h => absurd h (by decide)⟩
theorem hopA8 {a0 : Act} {w : World} {BO k B6 k2 : Nat} {aX aS : Option Addr} {nX cX nS cS n0 : Nat} {X S : List Nat} (E : EnvA8 a0 w BO k B6 k2 aX aS nX cX nS cS n0 X S) {R : Exit → Act → World → Prop} : ∀ (i t : Nat) (o : Oper) (a : Act) (x : World), i < 21 → sA8[i]? = some t → opsA8[i]? = some o → Q w x → (∀ j, j ∉ sA8 → a.tmps[j]? = a0.tmps[j]?) → (∀ ed ∈ o.after, Region.binds .any ed = true → ∀ t', sA8[ed.on]? = some t' → ∃ v, a.tmps[t']? = some v ∧ specAt (spA8 BO k B6 k2 aX aS nX cX nS cS n0 X S) ed.on v x) → Yld Tryd.prog R o a x t (fun v x' => specAt (spA8 BO k B6 k2 aX aS nX cX nS cS n0 X S) i v x' ∧ (i ∈ ([] : List Nat) → v = ptrV x.heap.size))
  | 0, t, o, a, x, hi, ht, ho, q, oth, dep => by
    have e1 : oA8_0 = o := Option.some.inj ho
    have e2 : 56 = t := Option.some.inj ht
    subst e1 e2
    exact yA8_0 E q oth dep
  | 1, t, o, a, x, hi, ht, ho, q, oth, dep => by
    have e1 : oA8_1 = o := Option.some.inj ho
    have e2 : 57 = t := Option.some.inj ht
    subst e1 e2
    exact yA8_1 E q oth dep
  | 2, t, o, a, x, hi, ht, ho, q, oth, dep => by
    have e1 : oA8_2 = o := Option.some.inj ho
    have e2 : 58 = t := Option.some.inj ht
    subst e1 e2
    exact yA8_2 E q oth dep
  | 3, t, o, a, x, hi, ht, ho, q, oth, dep => by
    have e1 : oA8_3 = o := Option.some.inj ho
    have e2 : 59 = t := Option.some.inj ht
    subst e1 e2
    exact yA8_3 E q oth dep
  | 4, t, o, a, x, hi, ht, ho, q, oth, dep => by
    have e1 : oA8_4 = o := Option.some.inj ho
    have e2 : 60 = t := Option.some.inj ht
    subst e1 e2
    exact yA8_4 E q oth dep
  | 5, t, o, a, x, hi, ht, ho, q, oth, dep => by
    have e1 : oA8_5 = o := Option.some.inj ho
    have e2 : 61 = t := Option.some.inj ht
    subst e1 e2
    exact yA8_5 E q oth dep
  | 6, t, o, a, x, hi, ht, ho, q, oth, dep => by
    have e1 : oA8_6 = o := Option.some.inj ho
    have e2 : 62 = t := Option.some.inj ht
    subst e1 e2
    exact yA8_6 E q oth dep
  | 7, t, o, a, x, hi, ht, ho, q, oth, dep => by
    have e1 : oA8_7 = o := Option.some.inj ho
    have e2 : 63 = t := Option.some.inj ht
    subst e1 e2
    exact yA8_7 E q oth dep
  | 8, t, o, a, x, hi, ht, ho, q, oth, dep => by
    have e1 : oA8_8 = o := Option.some.inj ho
    have e2 : 64 = t := Option.some.inj ht
    subst e1 e2
    exact yA8_8 E q oth dep
  | 9, t, o, a, x, hi, ht, ho, q, oth, dep => by
    have e1 : oA8_9 = o := Option.some.inj ho
    have e2 : 65 = t := Option.some.inj ht
    subst e1 e2
    exact yA8_9 E q oth dep
  | 10, t, o, a, x, hi, ht, ho, q, oth, dep => by
    have e1 : oA8_10 = o := Option.some.inj ho
    have e2 : 66 = t := Option.some.inj ht
    subst e1 e2
    exact yA8_10 E q oth dep
  | 11, t, o, a, x, hi, ht, ho, q, oth, dep => by
    have e1 : oA8_11 = o := Option.some.inj ho
    have e2 : 67 = t := Option.some.inj ht
    subst e1 e2
    exact yA8_11 E q oth dep
  | 12, t, o, a, x, hi, ht, ho, q, oth, dep => by
    have e1 : oA8_12 = o := Option.some.inj ho
    have e2 : 68 = t := Option.some.inj ht
    subst e1 e2
    exact yA8_12 E q oth dep
  | 13, t, o, a, x, hi, ht, ho, q, oth, dep => by
    have e1 : oA8_13 = o := Option.some.inj ho
    have e2 : 69 = t := Option.some.inj ht
    subst e1 e2
    exact yA8_13 E q oth dep
  | 14, t, o, a, x, hi, ht, ho, q, oth, dep => by
    have e1 : oA8_14 = o := Option.some.inj ho
    have e2 : 70 = t := Option.some.inj ht
    subst e1 e2
    exact yA8_14 E q oth dep
  | 15, t, o, a, x, hi, ht, ho, q, oth, dep => by
    have e1 : oA8_15 = o := Option.some.inj ho
    have e2 : 71 = t := Option.some.inj ht
    subst e1 e2
    exact yA8_15 E q oth dep
  | 16, t, o, a, x, hi, ht, ho, q, oth, dep => by
    have e1 : oA8_16 = o := Option.some.inj ho
    have e2 : 72 = t := Option.some.inj ht
    subst e1 e2
    exact yA8_16 E q oth dep
  | 17, t, o, a, x, hi, ht, ho, q, oth, dep => by
    have e1 : oA8_17 = o := Option.some.inj ho
    have e2 : 73 = t := Option.some.inj ht
    subst e1 e2
    exact yA8_17 E q oth dep
  | 18, t, o, a, x, hi, ht, ho, q, oth, dep => by
    have e1 : oA8_18 = o := Option.some.inj ho
    have e2 : 74 = t := Option.some.inj ht
    subst e1 e2
    exact yA8_18 E q oth dep
  | 19, t, o, a, x, hi, ht, ho, q, oth, dep => by
    have e1 : oA8_19 = o := Option.some.inj ho
    have e2 : 75 = t := Option.some.inj ht
    subst e1 e2
    exact yA8_19 E q oth dep
  | 20, t, o, a, x, hi, ht, ho, q, oth, dep => by
    have e1 : oA8_20 = o := Option.some.inj ho
    have e2 : 76 = t := Option.some.inj ht
    subst e1 e2
    exact yA8_20 E q oth dep
  | i + 21, t, o, a, x, hi, ht, ho, q, oth, dep => absurd hi (by omega)
theorem regionA8 {id : Nat} {l : List Oper} {R : Exit → Act → World → Prop} {a0 : Act} {w : World} {BO k B6 k2 : Nat} {aX aS : Option Addr} {nX cX nS cS n0 : Nat} {X S : List Nat} (hl : l = opsA8) (hsz : a0.tmps.size = 172) (E : EnvA8 a0 w BO k B6 k2 aX aS nX cX nS cS n0 X S)
    (hR : ∀ x la lc v56 v57 v58 v59 v60 v61 v62 v63 v64 v65 v66 v67 v68 v69 v70 v71 v72 v73 v74 v75 v76, Q w x → USl x (.slice la (nX + nS) lc) (X ++ S) → (∀ g o, la = some ⟨g, o, none⟩ → n0 ≤ g ∨ (la = aX ∧ nS = 0)) → (nX + nS ≤ lc ∧ (la = none → nX + nS = 0 ∧ lc = 0)) → R .normal (putAll a0 [(56, v56), (57, v57), (58, v58), (59, v59), (60, v60), (61, v61), (62, v62), (63, v63), (64, v64), (65, v65), (66, v66), (67, v67), (68, v68), (69, v69), (70, v70), (71, v71), (72, v72), (73, v73), (74, v74), (75, v75), (76, v76)]) (x.setCell ⟨BO, k, none⟩ (.slice la (nX + nS) lc))) :
    (Code.region id l.toArray true).wp Tryd.prog R a0 w := by
  subst hl
  refine wp_region_facts 21 sA8 (specAt (spA8 BO k B6 k2 aX aS nX cX nS cS n0 X S)) [] (by kernel_rfl) (by decide +kernel) (by decide) rfl (by decide) (fun t ht => ?_) specAt.next (fun i v x hi hf => by cases hi) (hopA8 E) (fun a x q size defers other facts apart => ?_)
  · rw [hsz]
    revert t
    decide
  · obtain ⟨u0, t0, f0⟩ := facts 0 56 (by decide) rfl
    obtain ⟨u1, t1, f1⟩ := facts 1 57 (by decide) rfl
    obtain ⟨u2, t2, f2⟩ := facts 2 58 (by decide) rfl
    obtain ⟨u3, t3, f3⟩ := facts 3 59 (by decide) rfl
    obtain ⟨u4, t4, f4⟩ := facts 4 60 (by decide) rfl
    obtain ⟨u5, t5, f5⟩ := facts 5 61 (by decide) rfl
    obtain ⟨u6, t6, f6⟩ := facts 6 62 (by decide) rfl
    obtain ⟨u7, t7, f7⟩ := facts 7 63 (by decide) rfl
    obtain ⟨u8, t8, f8⟩ := facts 8 64 (by decide) rfl
    obtain ⟨u9, t9, f9⟩ := facts 9 65 (by decide) rfl
    obtain ⟨u10, t10, f10⟩ := facts 10 66 (by decide) rfl
    obtain ⟨u11, t11, f11⟩ := facts 11 67 (by decide) rfl
    obtain ⟨u12, t12, f12⟩ := facts 12 68 (by decide) rfl
    obtain ⟨u13, t13, f13⟩ := facts 13 69 (by decide) rfl
    obtain ⟨u14, t14, f14⟩ := facts 14 70 (by decide) rfl
    obtain ⟨u15, t15, f15⟩ := facts 15 71 (by decide) rfl
    obtain ⟨u16, t16, f16⟩ := facts 16 72 (by decide) rfl
    obtain ⟨u17, t17, f17⟩ := facts 17 73 (by decide) rfl
    obtain ⟨u18, t18, f18⟩ := facts 18 74 (by decide) rfl
    obtain ⟨u19, t19, f19⟩ := facts 19 75 (by decide) rfl
    obtain ⟨u20, t20, f20⟩ := facts 20 76 (by decide) rfl
    obtain ⟨la, lc, rfl, hu, hb, hlz⟩ : ∃ la lc, u19 = .slice la (nX + nS) lc ∧ USl x (.slice la (nX + nS) lc) (X ++ S) ∧ (∀ g o, la = some ⟨g, o, none⟩ → n0 ≤ g ∨ (la = aX ∧ nS = 0)) ∧ nX + nS ≤ lc ∧ (la = none → nX + nS = 0 ∧ lc = 0) := f19
    have f20 : u20 = .pointer (some ⟨BO, k, none⟩) := f20
    subst f20
    have hA := act_puts (a := a) (a0 := a0) [(56, u0), (57, u1), (58, u2), (59, u3), (60, u4), (61, u5), (62, u6), (63, u7), (64, u8), (65, u9), (66, u10), (67, u11), (68, u12), (69, u13), (70, u14), (71, u15), (72, u16), (73, u17), (74, u18), (75, .slice la (nX + nS) lc), (76, .pointer (some ⟨BO, k, none⟩))] (show ([56, 57, 58, 59, 60, 61, 62, 63, 64, 65, 66, 67, 68, 69, 70, 71, 72, 73, 74, 75, 76] : List Nat).Nodup by decide) size defers (fun j hj => other j (by simpa [sA8] using hj)) (fun r hr => ?_)
    · refine ⟨?_⟩
      show Oper.wp Tryd.prog oA8_21 a x (fun a' x' => R .normal a' x') R
      have hc : x.cell? ⟨BO, k, none⟩ = some (.slice aX nX cX) := q.cell E.cx
      have hf : x.frozen? ⟨BO, k, none⟩ = false := by rw [q.2]; exact E.fo k
      have e1 := tmp_eval t20
      have e2 := tmp_eval t19
      have hrun : (execOp a.eval oA8_21).run Tryd.prog x = .ok .skip (x.setCell ⟨BO, k, none⟩ (.slice la (nX + nS) lc)) := by
        exact run_stA e1 e2 hc hf
      unfold Oper.wp
      rw [hrun, Oper.upon_skip]
      have := hR x la lc u0 u1 u2 u3 u4 u5 u6 u7 u8 u9 u10 u11 u12 u13 u14 u15 u16 u17 u18 (.slice la (nX + nS) lc) (.pointer (some ⟨BO, k, none⟩)) q hu hb hlz
      rw [← hA] at this
      exact this
    · simp only [List.mem_cons, List.not_mem_nil, or_false] at hr
      rcases hr with rfl | rfl | rfl | rfl | rfl | rfl | rfl | rfl | rfl | rfl | rfl | rfl | rfl | rfl | rfl | rfl | rfl | rfl | rfl | rfl | rfl
      · exact t0
      · exact t1
      · exact t2
      · exact t3
      · exact t4
      · exact t5
      · exact t6
      · exact t7
      · exact t8
      · exact t9
      · exact t10
      · exact t11
      · exact t12
      · exact t13
      · exact t14
      · exact t15
      · exact t16
      · exact t17
      · exact t18
      · exact t19
      · exact t20
theorem normA8 {t0 t1 t2 t3 t4 t5 t6 t7 t8 t9 t10 t11 t12 t13 t14 t15 t16 t17 t18 t19 t20 t21 t22 t23 t24 t25 t26 t27 t28 t29 t30 t31 t32 t33 t34 t35 t36 t37 t38 t39 t40 t41 t42 t43 t44 t45 t46 t47 t48 t49 t50 t51 t52 t53 t54 t55 t56 t57 t58 t59 t60 t61 t62 t63 t64 t65 t66 t67 t68 t69 t70 t71 t72 t73 t74 t75 t76 t77 t78 t79 t80 t81 t82 t83 t84 t85 t86 t87 t88 t89 t90 t91 t92 t93 t94 t95 t96 t97 t98 t99 t100 t101 t102 t103 t104 t105 t106 t107 t108 t109 t110 t111 t112 t113 t114 t115 t116 t117 t118 t119 t120 t121 t122 t123 t124 t125 t126 t127 t128 t129 t130 t131 t132 t133 t134 t135 t136 t137 t138 t139 t140 t141 t142 t143 t144 t145 t146 t147 t148 t149 t150 t151 t152 t153 t154 t155 t156 t157 t158 t159 t160 t161 t162 t163 t164 t165 t166 t167 t168 t169 t170 t171 v56 v57 v58 v59 v60 v61 v62 v63 v64 v65 v66 v67 v68 v69 v70 v71 v72 v73 v74 v75 v76 : Value} {d : List Deferred} : putAll ⟨#[t0, t1, t2, t3, t4, t5, t6, t7, t8, t9, t10, t11, t12, t13, t14, t15, t16, t17, t18, t19, t20, t21, t22, t23, t24, t25, t26, t27, t28, t29, t30, t31, t32, t33, t34, t35, t36, t37, t38, t39, t40, t41, t42, t43, t44, t45, t46, t47, t48, t49, t50, t51, t52, t53, t54, t55, t56, t57, t58, t59, t60, t61, t62, t63, t64, t65, t66, t67, t68, t69, t70, t71, t72, t73, t74, t75, t76, t77, t78, t79, t80, t81, t82, t83, t84, t85, t86, t87, t88, t89, t90, t91, t92, t93, t94, t95, t96, t97, t98, t99, t100, t101, t102, t103, t104, t105, t106, t107, t108, t109, t110, t111, t112, t113, t114, t115, t116, t117, t118, t119, t120, t121, t122, t123, t124, t125, t126, t127, t128, t129, t130, t131, t132, t133, t134, t135, t136, t137, t138, t139, t140, t141, t142, t143, t144, t145, t146, t147, t148, t149, t150, t151, t152, t153, t154, t155, t156, t157, t158, t159, t160, t161, t162, t163, t164, t165, t166, t167, t168, t169, t170, t171], d⟩ [(56, v56), (57, v57), (58, v58), (59, v59), (60, v60), (61, v61), (62, v62), (63, v63), (64, v64), (65, v65), (66, v66), (67, v67), (68, v68), (69, v69), (70, v70), (71, v71), (72, v72), (73, v73), (74, v74), (75, v75), (76, v76)] = ⟨#[t0, t1, t2, t3, t4, t5, t6, t7, t8, t9, t10, t11, t12, t13, t14, t15, t16, t17, t18, t19, t20, t21, t22, t23, t24, t25, t26, t27, t28, t29, t30, t31, t32, t33, t34, t35, t36, t37, t38, t39, t40, t41, t42, t43, t44, t45, t46, t47, t48, t49, t50, t51, t52, t53, t54, t55, v56, v57, v58, v59, v60, v61, v62, v63, v64, v65, v66, v67, v68, v69, v70, v71, v72, v73, v74, v75, v76, t77, t78, t79, t80, t81, t82, t83, t84, t85, t86, t87, t88, t89, t90, t91, t92, t93, t94, t95, t96, t97, t98, t99, t100, t101, t102, t103, t104, t105, t106, t107, t108, t109, t110, t111, t112, t113, t114, t115, t116, t117, t118, t119, t120, t121, t122, t123, t124, t125, t126, t127, t128, t129, t130, t131, t132, t133, t134, t135, t136, t137, t138, t139, t140, t141, t142, t143, t144, t145, t146, t147, t148, t149, t150, t151, t152, t153, t154, t155, t156, t157, t158, t159, t160, t161, t162, t163, t164, t165, t166, t167, t168, t169, t170, t171], d⟩ := by
  kernel_rfl
def oA7_0 : Oper := { dst := some 109, op := .move (.tmp 4), type := 28, pos := "exact.go:168", after := #[], guard := none }
def oA7_1 : Oper := { dst := some 110, op := .move (.tmp 7), type := 3, pos := "exact.go:168", after := #[], guard := none }
def oA7_2 : Oper := { dst := some 111, op := .move (.tmp 4), type := 28, pos := "exact.go:168", after := #[], guard := none }
def oA7_3 : Oper := { dst := some 112, op := .move (.tmp 7), type := 3, pos := "exact.go:168", after := #[], guard := none }
def oA7_4 : Oper := { dst := some 113, op := .indexAddr 28 (.tmp 111) (.tmp 112), type := 0, pos := "exact.go:168", after := #[⟨2, .data⟩, ⟨3, .data⟩], guard := none }
def oA7_5 : Oper := { dst := some 114, op := .load 29 (.tmp 113), type := 29, pos := "exact.go:168", after := #[⟨4, .data⟩], guard := none }
def oA7_6 : Oper := { dst := some 115, op := .move (.tmp 4), type := 28, pos := "exact.go:168", after := #[], guard := none }
def oA7_7 : Oper := { dst := some 116, op := .move (.tmp 7), type := 3, pos := "exact.go:168", after := #[], guard := none }
def oA7_8 : Oper := { dst := some 117, op := .indexAddr 28 (.tmp 115) (.tmp 116), type := 0, pos := "exact.go:168", after := #[⟨6, .data⟩, ⟨7, .data⟩], guard := none }
def oA7_9 : Oper := { dst := some 118, op := .load 29 (.tmp 117), type := 29, pos := "exact.go:168", after := #[⟨8, .data⟩], guard := none }
def oA7_10 : Oper := { dst := some 119, op := .call { callee := .builtin .len, args := #[.tmp 118], argTypes := #[29] }, type := 3, pos := "exact.go:168", after := #[⟨9, .data⟩], guard := none }
def oA7_11 : Oper := { dst := some 120, op := .move (.tmp 4), type := 28, pos := "exact.go:168", after := #[], guard := none }
def oA7_12 : Oper := { dst := some 121, op := .move (.tmp 7), type := 3, pos := "exact.go:168", after := #[], guard := none }
def oA7_13 : Oper := { dst := some 122, op := .indexAddr 28 (.tmp 120) (.tmp 121), type := 0, pos := "exact.go:168", after := #[⟨11, .data⟩, ⟨12, .data⟩], guard := none }
def oA7_14 : Oper := { dst := some 123, op := .load 29 (.tmp 122), type := 29, pos := "exact.go:168", after := #[⟨13, .data⟩], guard := none }
def oA7_15 : Oper := { dst := some 124, op := .call { callee := .builtin .len, args := #[.tmp 123], argTypes := #[29] }, type := 3, pos := "exact.go:168", after := #[⟨14, .data⟩], guard := none }
def oA7_16 : Oper := { dst := some 125, op := .slice 29 (.tmp 114) none (some (.tmp 119)) (some (.tmp 124)), type := 29, pos := "exact.go:168", after := #[⟨5, .data⟩, ⟨10, .data⟩, ⟨15, .data⟩], guard := none }
def oA7_17 : Oper := { dst := some 126, op := .move (.tmp 4), type := 28, pos := "exact.go:168", after := #[], guard := none }
def oA7_18 : Oper := { dst := some 127, op := .move (.tmp 8), type := 3, pos := "exact.go:168", after := #[], guard := none }
def oA7_19 : Oper := { dst := some 128, op := .indexAddr 28 (.tmp 126) (.tmp 127), type := 0, pos := "exact.go:168", after := #[⟨17, .data⟩, ⟨18, .data⟩], guard := none }
def oA7_20 : Oper := { dst := some 129, op := .load 29 (.tmp 128), type := 29, pos := "exact.go:168", after := #[⟨19, .data⟩], guard := none }
def oA7_21 : Oper := { dst := some 130, op := .call { callee := .builtin .append, args := #[.tmp 125, .tmp 129], argTypes := #[29, 29] }, type := 29, pos := "exact.go:168", after := #[⟨16, .data⟩, ⟨20, .data⟩], guard := none }
def oA7_22 : Oper := { dst := some 131, op := .indexAddr 28 (.tmp 109) (.tmp 110), type := 0, pos := "exact.go:168", after := #[⟨0, .data⟩, ⟨1, .data⟩, ⟨0, .phase⟩, ⟨1, .phase⟩, ⟨2, .phase⟩, ⟨3, .phase⟩, ⟨4, .phase⟩, ⟨5, .phase⟩, ⟨6, .phase⟩, ⟨7, .phase⟩, ⟨8, .phase⟩, ⟨9, .phase⟩, ⟨10, .phase⟩, ⟨11, .phase⟩, ⟨12, .phase⟩, ⟨13, .phase⟩, ⟨14, .phase⟩, ⟨15, .phase⟩, ⟨16, .phase⟩, ⟨17, .phase⟩, ⟨18, .phase⟩, ⟨19, .phase⟩, ⟨20, .phase⟩, ⟨21, .phase⟩], guard := none }
def oA7_23 : Oper := { dst := none, op := .store 29 (.tmp 131) (.tmp 130), type := 0, pos := "exact.go:168", after := #[⟨22, .data⟩, ⟨21, .data⟩, ⟨21, .chain⟩, ⟨0, .phase⟩, ⟨1, .phase⟩, ⟨2, .phase⟩, ⟨3, .phase⟩, ⟨4, .phase⟩, ⟨5, .phase⟩, ⟨6, .phase⟩, ⟨7, .phase⟩, ⟨8, .phase⟩, ⟨9, .phase⟩, ⟨10, .phase⟩, ⟨11, .phase⟩, ⟨12, .phase⟩, ⟨13, .phase⟩, ⟨14, .phase⟩, ⟨15, .phase⟩, ⟨16, .phase⟩, ⟨17, .phase⟩, ⟨18, .phase⟩, ⟨19, .phase⟩, ⟨20, .phase⟩, ⟨21, .phase⟩], guard := none }
def opsA7 : List Oper := [oA7_0, oA7_1, oA7_2, oA7_3, oA7_4, oA7_5, oA7_6, oA7_7, oA7_8, oA7_9, oA7_10, oA7_11, oA7_12, oA7_13, oA7_14, oA7_15, oA7_16, oA7_17, oA7_18, oA7_19, oA7_20, oA7_21, oA7_22, oA7_23]
def sA7 : List Nat := [109, 110, 111, 112, 113, 114, 115, 116, 117, 118, 119, 120, 121, 122, 123, 124, 125, 126, 127, 128, 129, 130, 131]
def spA7 (BO k B6 k2 : Nat) (aX aS : Option Addr) (nX cX nS cS n0 : Nat) (X S : List Nat) : List Spec := [spV (.slice (some ⟨BO, 0, none⟩) 3 3), spV (.int .i64 (k : Int)), spV (.slice (some ⟨BO, 0, none⟩) 3 3), spV (.int .i64 (k : Int)), spV (.pointer (some ⟨BO, k, none⟩)), spV (.slice aX nX cX), spV (.slice (some ⟨BO, 0, none⟩) 3 3), spV (.int .i64 (k : Int)), spV (.pointer (some ⟨BO, k, none⟩)), spV (.slice aX nX cX), spV (.int .i64 (nX : Int)), spV (.slice (some ⟨BO, 0, none⟩) 3 3), spV (.int .i64 (k : Int)), spV (.pointer (some ⟨BO, k, none⟩)), spV (.slice aX nX cX), spV (.int .i64 (nX : Int)), spV (.slice aX nX nX), spV (.slice (some ⟨BO, 0, none⟩) 3 3), spV (.int .i64 (k2 : Int)), spV (.pointer (some ⟨BO, k2, none⟩)), spV (.slice aS nS cS), spAp aX (nX + nS) n0 nS (X ++ S), spV (.pointer (some ⟨BO, k, none⟩))]
structure EnvA7 (a0 : Act) (w : World) (BO k B6 k2 : Nat) (aX aS : Option Addr) (nX cX nS cS n0 : Nat) (X S : List Nat) : Prop where
  h4 : a0.tmps[4]? = some (.slice (some ⟨BO, 0, none⟩) 3 3)
  h7 : a0.tmps[7]? = some (.int .i64 (k : Int))
  hk : k < 3
  cx : w.cell? ⟨BO, k, none⟩ = some (.slice aX nX cX)
  uc : USl w (.slice aX nX nX) X
  us : USl w (.slice aS nS cS) S
  lx : X.length = nX
  ls : S.length = nS
  bd : nX + nS ≤ 100000
  cap : nX ≤ cX
  nz : aX = none → nX = 0 ∧ cX = 0
  n0 : w.heap.size = n0
  fo : ∀ j, w.frozen? ⟨BO, j, none⟩ = false
  h8 : a0.tmps[8]? = some (.int .i64 (k2 : Int))
  hk2 : k2 < 3
  cs : w.cell? ⟨BO, k2, none⟩ = some (.slice aS nS cS)
theorem yA7_0 {a0 : Act} {w : World} {BO k B6 k2 : Nat} {aX aS : Option Addr} {nX cX nS cS n0 : Nat} {X S : List Nat} (E : EnvA7 a0 w BO k B6 k2 aX aS nX cX nS cS n0 X S) {R : Exit → Act → World → Prop} {a : Act} {x : World} (q : Q w x) (oth : ∀ j, j ∉ sA7 → a.tmps[j]? = a0.tmps[j]?) (dep : ∀ ed ∈ oA7_0.after, Region.binds .any ed = true → ∀ t', sA7[ed.on]? = some t' → ∃ v, a.tmps[t']? = some v ∧ specAt (spA7 BO k B6 k2 aX aS nX cX nS cS n0 X S) ed.on v x) : Yld Tryd.prog R oA7_0 a x 109 (fun v x' => specAt (spA7 BO k B6 k2 aX aS nX cX nS cS n0 X S) 0 v x' ∧ (0 ∈ ([] : List Nat) → v = ptrV x.heap.size)) := by
  exact yld_move ((oth 4 (by decide)).trans E.h4) ⟨rfl, fun h => absurd h (by decide)⟩
theorem yA7_1 {a0 : Act} {w : World} {BO k B6 k2 : Nat} {aX aS : Option Addr} {nX cX nS cS n0 : Nat} {X S : List Nat} (E : EnvA7 a0 w BO k B6 k2 aX aS nX cX nS cS n0 X S) {R : Exit → Act → World → Prop} {a : Act} {x : World} (q : Q w x) (oth : ∀ j, j ∉ sA7 → a.tmps[j]? = a0.tmps[j]?) (dep : ∀ ed ∈ oA7_1.after, Region.binds .any ed = true → ∀ t', sA7[ed.on]? = some t' → ∃ v, a.tmps[t']? = some v ∧ specAt (spA7 BO k B6 k2 aX aS nX cX nS cS n0 X S) ed.on v x) : Yld Tryd.prog R oA7_1 a x 110 (fun v x' => specAt (spA7 BO k B6 k2 aX aS nX cX nS cS n0 X S) 1 v x' ∧ (1 ∈ ([] : List Nat) → v = ptrV x.heap.size)) := by
  exact yld_move ((oth 7 (by decide)).trans E.h7) ⟨rfl, fun h => absurd h (by decide)⟩
theorem yA7_2 {a0 : Act} {w : World} {BO k B6 k2 : Nat} {aX aS : Option Addr} {nX cX nS cS n0 : Nat} {X S : List Nat} (E : EnvA7 a0 w BO k B6 k2 aX aS nX cX nS cS n0 X S) {R : Exit → Act → World → Prop} {a : Act} {x : World} (q : Q w x) (oth : ∀ j, j ∉ sA7 → a.tmps[j]? = a0.tmps[j]?) (dep : ∀ ed ∈ oA7_2.after, Region.binds .any ed = true → ∀ t', sA7[ed.on]? = some t' → ∃ v, a.tmps[t']? = some v ∧ specAt (spA7 BO k B6 k2 aX aS nX cX nS cS n0 X S) ed.on v x) : Yld Tryd.prog R oA7_2 a x 111 (fun v x' => specAt (spA7 BO k B6 k2 aX aS nX cX nS cS n0 X S) 2 v x' ∧ (2 ∈ ([] : List Nat) → v = ptrV x.heap.size)) := by
  exact yld_move ((oth 4 (by decide)).trans E.h4) ⟨rfl, fun h => absurd h (by decide)⟩
theorem yA7_3 {a0 : Act} {w : World} {BO k B6 k2 : Nat} {aX aS : Option Addr} {nX cX nS cS n0 : Nat} {X S : List Nat} (E : EnvA7 a0 w BO k B6 k2 aX aS nX cX nS cS n0 X S) {R : Exit → Act → World → Prop} {a : Act} {x : World} (q : Q w x) (oth : ∀ j, j ∉ sA7 → a.tmps[j]? = a0.tmps[j]?) (dep : ∀ ed ∈ oA7_3.after, Region.binds .any ed = true → ∀ t', sA7[ed.on]? = some t' → ∃ v, a.tmps[t']? = some v ∧ specAt (spA7 BO k B6 k2 aX aS nX cX nS cS n0 X S) ed.on v x) : Yld Tryd.prog R oA7_3 a x 112 (fun v x' => specAt (spA7 BO k B6 k2 aX aS nX cX nS cS n0 X S) 3 v x' ∧ (3 ∈ ([] : List Nat) → v = ptrV x.heap.size)) := by
  exact yld_move ((oth 7 (by decide)).trans E.h7) ⟨rfl, fun h => absurd h (by decide)⟩
theorem yA7_4 {a0 : Act} {w : World} {BO k B6 k2 : Nat} {aX aS : Option Addr} {nX cX nS cS n0 : Nat} {X S : List Nat} (E : EnvA7 a0 w BO k B6 k2 aX aS nX cX nS cS n0 X S) {R : Exit → Act → World → Prop} {a : Act} {x : World} (q : Q w x) (oth : ∀ j, j ∉ sA7 → a.tmps[j]? = a0.tmps[j]?) (dep : ∀ ed ∈ oA7_4.after, Region.binds .any ed = true → ∀ t', sA7[ed.on]? = some t' → ∃ v, a.tmps[t']? = some v ∧ specAt (spA7 BO k B6 k2 aX aS nX cX nS cS n0 X S) ed.on v x) : Yld Tryd.prog R oA7_4 a x 113 (fun v x' => specAt (spA7 BO k B6 k2 aX aS nX cX nS cS n0 X S) 4 v x' ∧ (4 ∈ ([] : List Nat) → v = ptrV x.heap.size)) := by
  obtain ⟨v2, t2, f2⟩ := dep ⟨2, .data⟩ (by simp [oA7_4]) rfl 111 rfl
  have f2 : v2 = (.slice (some ⟨BO, 0, none⟩) 3 3) := f2
  subst f2
  obtain ⟨v3, t3, f3⟩ := dep ⟨3, .data⟩ (by simp [oA7_4]) rfl 112 rfl
  have f3 : v3 = (.int .i64 (k : Int)) := f3
  subst f3
  exact yld_run (x' := x) rfl (run_ixA (tmp_eval t2) (tmp_eval t3) E.hk) (Q.refl x) ⟨rfl, fun h => absurd h (by decide)⟩
theorem yA7_5 {a0 : Act} {w : World} {BO k B6 k2 : Nat} {aX aS : Option Addr} {nX cX nS cS n0 : Nat} {X S : List Nat} (E : EnvA7 a0 w BO k B6 k2 aX aS nX cX nS cS n0 X S) {R : Exit → Act → World → Prop} {a : Act} {x : World} (q : Q w x) (oth : ∀ j, j ∉ sA7 → a.tmps[j]? = a0.tmps[j]?) (dep : ∀ ed ∈ oA7_5.after, Region.binds .any ed = true → ∀ t', sA7[ed.on]? = some t' → ∃ v, a.tmps[t']? = some v ∧ specAt (spA7 BO k B6 k2 aX aS nX cX nS cS n0 X S) ed.on v x) : Yld Tryd.prog R oA7_5 a x 114 (fun v x' => specAt (spA7 BO k B6 k2 aX aS nX cX nS cS n0 X S) 5 v x' ∧ (5 ∈ ([] : List Nat) → v = ptrV x.heap.size)) := by
  obtain ⟨v4, t4, f4⟩ := dep ⟨4, .data⟩ (by simp [oA7_5]) rfl 113 rfl
  have f4 : v4 = (.pointer (some ⟨BO, k, none⟩)) := f4
  subst f4
  exact yld_run (x' := x) rfl (run_ldA (tmp_eval t4) (q.cell E.cx)) (Q.refl x) ⟨rfl, fun h => absurd h (by decide)⟩
theorem yA7_6 {a0 : Act} {w : World} {BO k B6 k2 : Nat} {aX aS : Option Addr} {nX cX nS cS n0 : Nat} {X S : List Nat} (E : EnvA7 a0 w BO k B6 k2 aX aS nX cX nS cS n0 X S) {R : Exit → Act → World → Prop} {a : Act} {x : World} (q : Q w x) (oth : ∀ j, j ∉ sA7 → a.tmps[j]? = a0.tmps[j]?) (dep : ∀ ed ∈ oA7_6.after, Region.binds .any ed = true → ∀ t', sA7[ed.on]? = some t' → ∃ v, a.tmps[t']? = some v ∧ specAt (spA7 BO k B6 k2 aX aS nX cX nS cS n0 X S) ed.on v x) : Yld Tryd.prog R oA7_6 a x 115 (fun v x' => specAt (spA7 BO k B6 k2 aX aS nX cX nS cS n0 X S) 6 v x' ∧ (6 ∈ ([] : List Nat) → v = ptrV x.heap.size)) := by
  exact yld_move ((oth 4 (by decide)).trans E.h4) ⟨rfl, fun h => absurd h (by decide)⟩
theorem yA7_7 {a0 : Act} {w : World} {BO k B6 k2 : Nat} {aX aS : Option Addr} {nX cX nS cS n0 : Nat} {X S : List Nat} (E : EnvA7 a0 w BO k B6 k2 aX aS nX cX nS cS n0 X S) {R : Exit → Act → World → Prop} {a : Act} {x : World} (q : Q w x) (oth : ∀ j, j ∉ sA7 → a.tmps[j]? = a0.tmps[j]?) (dep : ∀ ed ∈ oA7_7.after, Region.binds .any ed = true → ∀ t', sA7[ed.on]? = some t' → ∃ v, a.tmps[t']? = some v ∧ specAt (spA7 BO k B6 k2 aX aS nX cX nS cS n0 X S) ed.on v x) : Yld Tryd.prog R oA7_7 a x 116 (fun v x' => specAt (spA7 BO k B6 k2 aX aS nX cX nS cS n0 X S) 7 v x' ∧ (7 ∈ ([] : List Nat) → v = ptrV x.heap.size)) := by
  exact yld_move ((oth 7 (by decide)).trans E.h7) ⟨rfl, fun h => absurd h (by decide)⟩
theorem yA7_8 {a0 : Act} {w : World} {BO k B6 k2 : Nat} {aX aS : Option Addr} {nX cX nS cS n0 : Nat} {X S : List Nat} (E : EnvA7 a0 w BO k B6 k2 aX aS nX cX nS cS n0 X S) {R : Exit → Act → World → Prop} {a : Act} {x : World} (q : Q w x) (oth : ∀ j, j ∉ sA7 → a.tmps[j]? = a0.tmps[j]?) (dep : ∀ ed ∈ oA7_8.after, Region.binds .any ed = true → ∀ t', sA7[ed.on]? = some t' → ∃ v, a.tmps[t']? = some v ∧ specAt (spA7 BO k B6 k2 aX aS nX cX nS cS n0 X S) ed.on v x) : Yld Tryd.prog R oA7_8 a x 117 (fun v x' => specAt (spA7 BO k B6 k2 aX aS nX cX nS cS n0 X S) 8 v x' ∧ (8 ∈ ([] : List Nat) → v = ptrV x.heap.size)) := by
  obtain ⟨v6, t6, f6⟩ := dep ⟨6, .data⟩ (by simp [oA7_8]) rfl 115 rfl
  have f6 : v6 = (.slice (some ⟨BO, 0, none⟩) 3 3) := f6
  subst f6
  obtain ⟨v7, t7, f7⟩ := dep ⟨7, .data⟩ (by simp [oA7_8]) rfl 116 rfl
  have f7 : v7 = (.int .i64 (k : Int)) := f7
  subst f7
  exact yld_run (x' := x) rfl (run_ixA (tmp_eval t6) (tmp_eval t7) E.hk) (Q.refl x) ⟨rfl, fun h => absurd h (by decide)⟩
theorem yA7_9 {a0 : Act} {w : World} {BO k B6 k2 : Nat} {aX aS : Option Addr} {nX cX nS cS n0 : Nat} {X S : List Nat} (E : EnvA7 a0 w BO k B6 k2 aX aS nX cX nS cS n0 X S) {R : Exit → Act → World → Prop} {a : Act} {x : World} (q : Q w x) (oth : ∀ j, j ∉ sA7 → a.tmps[j]? = a0.tmps[j]?) (dep : ∀ ed ∈ oA7_9.after, Region.binds .any ed = true → ∀ t', sA7[ed.on]? = some t' → ∃ v, a.tmps[t']? = some v ∧ specAt (spA7 BO k B6 k2 aX aS nX cX nS cS n0 X S) ed.on v x) : Yld Tryd.prog R oA7_9 a x 118 (fun v x' => specAt (spA7 BO k B6 k2 aX aS nX cX nS cS n0 X S) 9 v x' ∧ (9 ∈ ([] : List Nat) → v = ptrV x.heap.size)) := by
  obtain ⟨v8, t8, f8⟩ := dep ⟨8, .data⟩ (by simp [oA7_9]) rfl 117 rfl
  have f8 : v8 = (.pointer (some ⟨BO, k, none⟩)) := f8
  subst f8
  exact yld_run (x' := x) rfl (run_ldA (tmp_eval t8) (q.cell E.cx)) (Q.refl x) ⟨rfl, fun h => absurd h (by decide)⟩
theorem yA7_10 {a0 : Act} {w : World} {BO k B6 k2 : Nat} {aX aS : Option Addr} {nX cX nS cS n0 : Nat} {X S : List Nat} (E : EnvA7 a0 w BO k B6 k2 aX aS nX cX nS cS n0 X S) {R : Exit → Act → World → Prop} {a : Act} {x : World} (q : Q w x) (oth : ∀ j, j ∉ sA7 → a.tmps[j]? = a0.tmps[j]?) (dep : ∀ ed ∈ oA7_10.after, Region.binds .any ed = true → ∀ t', sA7[ed.on]? = some t' → ∃ v, a.tmps[t']? = some v ∧ specAt (spA7 BO k B6 k2 aX aS nX cX nS cS n0 X S) ed.on v x) : Yld Tryd.prog R oA7_10 a x 119 (fun v x' => specAt (spA7 BO k B6 k2 aX aS nX cX nS cS n0 X S) 10 v x' ∧ (10 ∈ ([] : List Nat) → v = ptrV x.heap.size)) := by
  obtain ⟨v9, t9, f9⟩ := dep ⟨9, .data⟩ (by simp [oA7_10]) rfl 118 rfl
  have f9 : v9 = (.slice aX nX cX) := f9
  subst f9
  exact yld_run (x' := x) rfl (run_lenA (tmp_eval t9)) (Q.refl x) ⟨rfl, fun h => absurd h (by decide)⟩
theorem yA7_11 {a0 : Act} {w : World} {BO k B6 k2 : Nat} {aX aS : Option Addr} {nX cX nS cS n0 : Nat} {X S : List Nat} (E : EnvA7 a0 w BO k B6 k2 aX aS nX cX nS cS n0 X S) {R : Exit → Act → World → Prop} {a : Act} {x : World} (q : Q w x) (oth : ∀ j, j ∉ sA7 → a.tmps[j]? = a0.tmps[j]?) (dep : ∀ ed ∈ oA7_11.after, Region.binds .any ed = true → ∀ t', sA7[ed.on]? = some t' → ∃ v, a.tmps[t']? = some v ∧ specAt (spA7 BO k B6 k2 aX aS nX cX nS cS n0 X S) ed.on v x) : Yld Tryd.prog R oA7_11 a x 120 (fun v x' => specAt (spA7 BO k B6 k2 aX aS nX cX nS cS n0 X S) 11 v x' ∧ (11 ∈ ([] : List Nat) → v = ptrV x.heap.size)) := by
  exact yld_move ((oth 4 (by decide)).trans E.h4) ⟨rfl, fun h => absurd h (by decide)⟩
theorem yA7_12 {a0 : Act} {w : World} {BO k B6 k2 : Nat} {aX aS : Option Addr} {nX cX nS cS n0 : Nat} {X S : List Nat} (E : EnvA7 a0 w BO k B6 k2 aX aS nX cX nS cS n0 X S) {R : Exit → Act → World → Prop} {a : Act} {x : World} (q : Q w x) (oth : ∀ j, j ∉ sA7 → a.tmps[j]? = a0.tmps[j]?) (dep : ∀ ed ∈ oA7_12.after, Region.binds .any ed = true → ∀ t', sA7[ed.on]? = some t' → ∃ v, a.tmps[t']? = some v ∧ specAt (spA7 BO k B6 k2 aX aS nX cX nS cS n0 X S) ed.on v x) : Yld Tryd.prog R oA7_12 a x 121 (fun v x' => specAt (spA7 BO k B6 k2 aX aS nX cX nS cS n0 X S) 12 v x' ∧ (12 ∈ ([] : List Nat) → v = ptrV x.heap.size)) := by
  exact yld_move ((oth 7 (by decide)).trans E.h7) ⟨rfl, fun h => absurd h (by decide)⟩
theorem yA7_13 {a0 : Act} {w : World} {BO k B6 k2 : Nat} {aX aS : Option Addr} {nX cX nS cS n0 : Nat} {X S : List Nat} (E : EnvA7 a0 w BO k B6 k2 aX aS nX cX nS cS n0 X S) {R : Exit → Act → World → Prop} {a : Act} {x : World} (q : Q w x) (oth : ∀ j, j ∉ sA7 → a.tmps[j]? = a0.tmps[j]?) (dep : ∀ ed ∈ oA7_13.after, Region.binds .any ed = true → ∀ t', sA7[ed.on]? = some t' → ∃ v, a.tmps[t']? = some v ∧ specAt (spA7 BO k B6 k2 aX aS nX cX nS cS n0 X S) ed.on v x) : Yld Tryd.prog R oA7_13 a x 122 (fun v x' => specAt (spA7 BO k B6 k2 aX aS nX cX nS cS n0 X S) 13 v x' ∧ (13 ∈ ([] : List Nat) → v = ptrV x.heap.size)) := by
  obtain ⟨v11, t11, f11⟩ := dep ⟨11, .data⟩ (by simp [oA7_13]) rfl 120 rfl
  have f11 : v11 = (.slice (some ⟨BO, 0, none⟩) 3 3) := f11
  subst f11
  obtain ⟨v12, t12, f12⟩ := dep ⟨12, .data⟩ (by simp [oA7_13]) rfl 121 rfl
  have f12 : v12 = (.int .i64 (k : Int)) := f12
  subst f12
  exact yld_run (x' := x) rfl (run_ixA (tmp_eval t11) (tmp_eval t12) E.hk) (Q.refl x) ⟨rfl, fun h => absurd h (by decide)⟩
theorem yA7_14 {a0 : Act} {w : World} {BO k B6 k2 : Nat} {aX aS : Option Addr} {nX cX nS cS n0 : Nat} {X S : List Nat} (E : EnvA7 a0 w BO k B6 k2 aX aS nX cX nS cS n0 X S) {R : Exit → Act → World → Prop} {a : Act} {x : World} (q : Q w x) (oth : ∀ j, j ∉ sA7 → a.tmps[j]? = a0.tmps[j]?) (dep : ∀ ed ∈ oA7_14.after, Region.binds .any ed = true → ∀ t', sA7[ed.on]? = some t' → ∃ v, a.tmps[t']? = some v ∧ specAt (spA7 BO k B6 k2 aX aS nX cX nS cS n0 X S) ed.on v x) : Yld Tryd.prog R oA7_14 a x 123 (fun v x' => specAt (spA7 BO k B6 k2 aX aS nX cX nS cS n0 X S) 14 v x' ∧ (14 ∈ ([] : List Nat) → v = ptrV x.heap.size)) := by
  obtain ⟨v13, t13, f13⟩ := dep ⟨13, .data⟩ (by simp [oA7_14]) rfl 122 rfl
  have f13 : v13 = (.pointer (some ⟨BO, k, none⟩)) := f13
  subst f13
  exact yld_run (x' := x) rfl (run_ldA (tmp_eval t13) (q.cell E.cx)) (Q.refl x) ⟨rfl, fun h => absurd h (by decide)⟩
theorem yA7_15 {a0 : Act} {w : World} {BO k B6 k2 : Nat} {aX aS : Option Addr} {nX cX nS cS n0 : Nat} {X S : List Nat} (E : EnvA7 a0 w BO k B6 k2 aX aS nX cX nS cS n0 X S) {R : Exit → Act → World → Prop} {a : Act} {x : World} (q : Q w x) (oth : ∀ j, j ∉ sA7 → a.tmps[j]? = a0.tmps[j]?) (dep : ∀ ed ∈ oA7_15.after, Region.binds .any ed = true → ∀ t', sA7[ed.on]? = some t' → ∃ v, a.tmps[t']? = some v ∧ specAt (spA7 BO k B6 k2 aX aS nX cX nS cS n0 X S) ed.on v x) : Yld Tryd.prog R oA7_15 a x 124 (fun v x' => specAt (spA7 BO k B6 k2 aX aS nX cX nS cS n0 X S) 15 v x' ∧ (15 ∈ ([] : List Nat) → v = ptrV x.heap.size)) := by
  obtain ⟨v14, t14, f14⟩ := dep ⟨14, .data⟩ (by simp [oA7_15]) rfl 123 rfl
  have f14 : v14 = (.slice aX nX cX) := f14
  subst f14
  exact yld_run (x' := x) rfl (run_lenA (tmp_eval t14)) (Q.refl x) ⟨rfl, fun h => absurd h (by decide)⟩
theorem yA7_16 {a0 : Act} {w : World} {BO k B6 k2 : Nat} {aX aS : Option Addr} {nX cX nS cS n0 : Nat} {X S : List Nat} (E : EnvA7 a0 w BO k B6 k2 aX aS nX cX nS cS n0 X S) {R : Exit → Act → World → Prop} {a : Act} {x : World} (q : Q w x) (oth : ∀ j, j ∉ sA7 → a.tmps[j]? = a0.tmps[j]?) (dep : ∀ ed ∈ oA7_16.after, Region.binds .any ed = true → ∀ t', sA7[ed.on]? = some t' → ∃ v, a.tmps[t']? = some v ∧ specAt (spA7 BO k B6 k2 aX aS nX cX nS cS n0 X S) ed.on v x) : Yld Tryd.prog R oA7_16 a x 125 (fun v x' => specAt (spA7 BO k B6 k2 aX aS nX cX nS cS n0 X S) 16 v x' ∧ (16 ∈ ([] : List Nat) → v = ptrV x.heap.size)) := by
  obtain ⟨v5, t5, f5⟩ := dep ⟨5, .data⟩ (by simp [oA7_16]) rfl 114 rfl
  have f5 : v5 = (.slice aX nX cX) := f5
  subst f5
  obtain ⟨v10, t10, f10⟩ := dep ⟨10, .data⟩ (by simp [oA7_16]) rfl 119 rfl
  have f10 : v10 = (.int .i64 (nX : Int)) := f10
  subst f10
  obtain ⟨v15, t15, f15⟩ := dep ⟨15, .data⟩ (by simp [oA7_16]) rfl 124 rfl
  have f15 : v15 = (.int .i64 (nX : Int)) := f15
  subst f15
  exact yld_run (x' := x) rfl (run_slA (tmp_eval t5) (tmp_eval t10) (tmp_eval t15) E.cap E.nz) (Q.refl x) ⟨rfl, fun h => absurd h (by decide)⟩
theorem yA7_17 {a0 : Act} {w : World} {BO k B6 k2 : Nat} {aX aS : Option Addr} {nX cX nS cS n0 : Nat} {X S : List Nat} (E : EnvA7 a0 w BO k B6 k2 aX aS nX cX nS cS n0 X S) {R : Exit → Act → World → Prop} {a : Act} {x : World} (q : Q w x) (oth : ∀ j, j ∉ sA7 → a.tmps[j]? = a0.tmps[j]?) (dep : ∀ ed ∈ oA7_17.after, Region.binds .any ed = true → ∀ t', sA7[ed.on]? = some t' → ∃ v, a.tmps[t']? = some v ∧ specAt (spA7 BO k B6 k2 aX aS nX cX nS cS n0 X S) ed.on v x) : Yld Tryd.prog R oA7_17 a x 126 (fun v x' => specAt (spA7 BO k B6 k2 aX aS nX cX nS cS n0 X S) 17 v x' ∧ (17 ∈ ([] : List Nat) → v = ptrV x.heap.size)) := by
  exact yld_move ((oth 4 (by decide)).trans E.h4) ⟨rfl, fun h => absurd h (by decide)⟩
theorem yA7_18 {a0 : Act} {w : World} {BO k B6 k2 : Nat} {aX aS : Option Addr} {nX cX nS cS n0 : Nat} {X S : List Nat} (E : EnvA7 a0 w BO k B6 k2 aX aS nX cX nS cS n0 X S) {R : Exit → Act → World → Prop} {a : Act} {x : World} (q : Q w x) (oth : ∀ j, j ∉ sA7 → a.tmps[j]? = a0.tmps[j]?) (dep : ∀ ed ∈ oA7_18.after, Region.binds .any ed = true → ∀ t', sA7[ed.on]? = some t' → ∃ v, a.tmps[t']? = some v ∧ specAt (spA7 BO k B6 k2 aX aS nX cX nS cS n0 X S) ed.on v x) : Yld Tryd.prog R oA7_18 a x 127 (fun v x' => specAt (spA7 BO k B6 k2 aX aS nX cX nS cS n0 X S) 18 v x' ∧ (18 ∈ ([] : List Nat) → v = ptrV x.heap.size)) := by
  exact yld_move ((oth 8 (by decide)).trans E.h8) ⟨rfl, fun h => absurd h (by decide)⟩
theorem yA7_19 {a0 : Act} {w : World} {BO k B6 k2 : Nat} {aX aS : Option Addr} {nX cX nS cS n0 : Nat} {X S : List Nat} (E : EnvA7 a0 w BO k B6 k2 aX aS nX cX nS cS n0 X S) {R : Exit → Act → World → Prop} {a : Act} {x : World} (q : Q w x) (oth : ∀ j, j ∉ sA7 → a.tmps[j]? = a0.tmps[j]?) (dep : ∀ ed ∈ oA7_19.after, Region.binds .any ed = true → ∀ t', sA7[ed.on]? = some t' → ∃ v, a.tmps[t']? = some v ∧ specAt (spA7 BO k B6 k2 aX aS nX cX nS cS n0 X S) ed.on v x) : Yld Tryd.prog R oA7_19 a x 128 (fun v x' => specAt (spA7 BO k B6 k2 aX aS nX cX nS cS n0 X S) 19 v x' ∧ (19 ∈ ([] : List Nat) → v = ptrV x.heap.size)) := by
  obtain ⟨v17, t17, f17⟩ := dep ⟨17, .data⟩ (by simp [oA7_19]) rfl 126 rfl
  have f17 : v17 = (.slice (some ⟨BO, 0, none⟩) 3 3) := f17
  subst f17
  obtain ⟨v18, t18, f18⟩ := dep ⟨18, .data⟩ (by simp [oA7_19]) rfl 127 rfl
  have f18 : v18 = (.int .i64 (k2 : Int)) := f18
  subst f18
  exact yld_run (x' := x) rfl (run_ixA (tmp_eval t17) (tmp_eval t18) E.hk2) (Q.refl x) ⟨rfl, fun h => absurd h (by decide)⟩
theorem yA7_20 {a0 : Act} {w : World} {BO k B6 k2 : Nat} {aX aS : Option Addr} {nX cX nS cS n0 : Nat} {X S : List Nat} (E : EnvA7 a0 w BO k B6 k2 aX aS nX cX nS cS n0 X S) {R : Exit → Act → World → Prop} {a : Act} {x : World} (q : Q w x) (oth : ∀ j, j ∉ sA7 → a.tmps[j]? = a0.tmps[j]?) (dep : ∀ ed ∈ oA7_20.after, Region.binds .any ed = true → ∀ t', sA7[ed.on]? = some t' → ∃ v, a.tmps[t']? = some v ∧ specAt (spA7 BO k B6 k2 aX aS nX cX nS cS n0 X S) ed.on v x) : Yld Tryd.prog R oA7_20 a x 129 (fun v x' => specAt (spA7 BO k B6 k2 aX aS nX cX nS cS n0 X S) 20 v x' ∧ (20 ∈ ([] : List Nat) → v = ptrV x.heap.size)) := by
  obtain ⟨v19, t19, f19⟩ := dep ⟨19, .data⟩ (by simp [oA7_20]) rfl 128 rfl
  have f19 : v19 = (.pointer (some ⟨BO, k2, none⟩)) := f19
  subst f19
  exact yld_run (x' := x) rfl (run_ldA (tmp_eval t19) (q.cell E.cs)) (Q.refl x) ⟨rfl, fun h => absurd h (by decide)⟩
theorem yA7_21 {a0 : Act} {w : World} {BO k B6 k2 : Nat} {aX aS : Option Addr} {nX cX nS cS n0 : Nat} {X S : List Nat} (E : EnvA7 a0 w BO k B6 k2 aX aS nX cX nS cS n0 X S) {R : Exit → Act → World → Prop} {a : Act} {x : World} (q : Q w x) (oth : ∀ j, j ∉ sA7 → a.tmps[j]? = a0.tmps[j]?) (dep : ∀ ed ∈ oA7_21.after, Region.binds .any ed = true → ∀ t', sA7[ed.on]? = some t' → ∃ v, a.tmps[t']? = some v ∧ specAt (spA7 BO k B6 k2 aX aS nX cX nS cS n0 X S) ed.on v x) : Yld Tryd.prog R oA7_21 a x 130 (fun v x' => specAt (spA7 BO k B6 k2 aX aS nX cX nS cS n0 X S) 21 v x' ∧ (21 ∈ ([] : List Nat) → v = ptrV x.heap.size)) := by
  obtain ⟨v16, t16, f16⟩ := dep ⟨16, .data⟩ (by simp [oA7_21]) rfl 125 rfl
  have f16 : v16 = (.slice aX nX nX) := f16
  subst f16
  obtain ⟨v20, t20, f20⟩ := dep ⟨20, .data⟩ (by simp [oA7_21]) rfl 129 rfl
  have f20 : v20 = (.slice aS nS cS) := f20
  subst f20
  obtain ⟨la, lc, x', hr, hq, hu, hb, hl, hz⟩ := run_apF x 29 aX nX X E.lx (E.uc.next q) aS nS cS S E.ls (E.us.next q) E.bd (fun e => (E.nz e).1)
  exact yld_run (x' := x') rfl (run_apo rfl (tmp_eval t16) (tmp_eval t20) hr) hq ⟨⟨la, lc, rfl, hu, fun g o e => (hb g o e).imp (fun h => by have := q.1.size; have := E.n0; omega) id, hl, hz⟩, fun h => absurd h (by decide)⟩
theorem yA7_22 {a0 : Act} {w : World} {BO k B6 k2 : Nat} {aX aS : Option Addr} {nX cX nS cS n0 : Nat} {X S : List Nat} (E : EnvA7 a0 w BO k B6 k2 aX aS nX cX nS cS n0 X S) {R : Exit → Act → World → Prop} {a : Act} {x : World} (q : Q w x) (oth : ∀ j, j ∉ sA7 → a.tmps[j]? = a0.tmps[j]?) (dep : ∀ ed ∈ oA7_22.after, Region.binds .any ed = true → ∀ t', sA7[ed.on]? = some t' → ∃ v, a.tmps[t']? = some v ∧ specAt (spA7 BO k B6 k2 aX aS nX cX nS cS n0 X S) ed.on v x) : Yld Tryd.prog R oA7_22 a x 131 (fun v x' => specAt (spA7 BO k B6 k2 aX aS nX cX nS cS n0 X S) 22 v x' ∧ (22 ∈ ([] : List Nat) → v = ptrV x.heap.size)) := by
  obtain ⟨v0, t0, f0⟩ := dep ⟨0, .data⟩ (by simp [oA7_22]) rfl 109 rfl
  have f0 : v0 = (.slice (some ⟨BO, 0, none⟩) 3 3) := f0
  subst f0
  obtain ⟨v1, t1, f1⟩ := dep ⟨1, .data⟩ (by simp [oA7_22]) rfl 110 rfl
  have f1 : v1 = (.int .i64 (k : Int)) := f1
  subst f1
  exact yld_run (x' := x) rfl (run_ixA (tmp_eval t0) (tmp_eval t1) E.hk) (Q.refl x) ⟨rfl, fun h => absurd h (by decide)⟩
theorem hopA7 {a0 : Act} {w : World} {BO k B6 k2 : Nat} {aX aS : Option Addr} {nX cX nS cS n0 : Nat} {X S : List Nat} (E : EnvA7 a0 w BO k B6 k2 aX aS nX cX nS cS n0 X S) {R : Exit → Act → World → Prop} : ∀ (i t : Nat) (o : Oper) (a : Act) (x : World), i < 23 → sA7[i]? = some t → opsA7[i]? = some o → Q w x → (∀ j, j ∉ sA7 → a.tmps[j]? = a0.tmps[j]?) → (∀ ed ∈ o.after, Region.binds .any ed = true → ∀ t', sA7[ed.on]? = some t' → ∃ v, a.tmps[t']? = some v ∧ specAt (spA7 BO k B6 k2 aX aS nX cX nS cS n0 X S) ed.on v x) → Yld Tryd.prog R o a x t (fun v x' => specAt (spA7 BO k B6 k2 aX aS nX cX nS cS n0 X S) i v x' ∧ (i ∈ ([] : List Nat) → v = ptrV x.heap.size))
  | 0, t, o, a, x, hi, ht, ho, q, oth, dep => by
    have e1 : oA7_0 = o := Option.some.inj ho
    have e2 : 109 = t := Option.some.inj ht
    subst e1 e2
    exact yA7_0 E q oth dep
  | 1, t, o, a, x, hi, ht, ho, q, oth, dep => by
    have e1 : oA7_1 = o := Option.some.inj ho
    have e2 : 110 = t := Option.some.inj ht
    subst e1 e2
    exact yA7_1 E q oth dep
  | 2, t, o, a, x, hi, ht, ho, q, oth, dep => by
    have e1 : oA7_2 = o := Option.some.inj ho
    have e2 : 111 = t := Option.some.inj ht
    subst e1 e2
    exact yA7_2 E q oth dep
  | 3, t, o, a, x, hi, ht, ho, q, oth, dep => by
    have e1 : oA7_3 = o := Option.some.inj ho
    have e2 : 112 = t := Option.some.inj ht
    subst e1 e2
    exact yA7_3 E q oth dep
  | 4, t, o, a, x, hi, ht, ho, q, oth, dep => by
    have e1 : oA7_4 = o := Option.some.inj ho
    have e2 : 113 = t := Option.some.inj ht
    subst e1 e2
    exact yA7_4 E q oth dep
  | 5, t, o, a, x, hi, ht, ho, q, oth, dep => by
    have e1 : oA7_5 = o := Option.some.inj ho
    have e2 : 114 = t := Option.some.inj ht
    subst e1 e2
    exact yA7_5 E q oth dep
  | 6, t, o, a, x, hi, ht, ho, q, oth, dep => by
    have e1 : oA7_6 = o := Option.some.inj ho
    have e2 : 115 = t := Option.some.inj ht
    subst e1 e2
    exact yA7_6 E q oth dep
  | 7, t, o, a, x, hi, ht, ho, q, oth, dep => by
    have e1 : oA7_7 = o := Option.some.inj ho
    have e2 : 116 = t := Option.some.inj ht
    subst e1 e2
    exact yA7_7 E q oth dep
  | 8, t, o, a, x, hi, ht, ho, q, oth, dep => by
    have e1 : oA7_8 = o := Option.some.inj ho
    have e2 : 117 = t := Option.some.inj ht
    subst e1 e2
    exact yA7_8 E q oth dep
  | 9, t, o, a, x, hi, ht, ho, q, oth, dep => by
    have e1 : oA7_9 = o := Option.some.inj ho
    have e2 : 118 = t := Option.some.inj ht
    subst e1 e2
    exact yA7_9 E q oth dep
  | 10, t, o, a, x, hi, ht, ho, q, oth, dep => by
    have e1 : oA7_10 = o := Option.some.inj ho
    have e2 : 119 = t := Option.some.inj ht
    subst e1 e2
    exact yA7_10 E q oth dep
  | 11, t, o, a, x, hi, ht, ho, q, oth, dep => by
    have e1 : oA7_11 = o := Option.some.inj ho
    have e2 : 120 = t := Option.some.inj ht
    subst e1 e2
    exact yA7_11 E q oth dep
  | 12, t, o, a, x, hi, ht, ho, q, oth, dep => by
    have e1 : oA7_12 = o := Option.some.inj ho
    have e2 : 121 = t := Option.some.inj ht
    subst e1 e2
    exact yA7_12 E q oth dep
  | 13, t, o, a, x, hi, ht, ho, q, oth, dep => by
    have e1 : oA7_13 = o := Option.some.inj ho
    have e2 : 122 = t := Option.some.inj ht
    subst e1 e2
    exact yA7_13 E q oth dep
  | 14, t, o, a, x, hi, ht, ho, q, oth, dep => by
    have e1 : oA7_14 = o := Option.some.inj ho
    have e2 : 123 = t := Option.some.inj ht
    subst e1 e2
    exact yA7_14 E q oth dep
  | 15, t, o, a, x, hi, ht, ho, q, oth, dep => by
    have e1 : oA7_15 = o := Option.some.inj ho
    have e2 : 124 = t := Option.some.inj ht
    subst e1 e2
    exact yA7_15 E q oth dep
  | 16, t, o, a, x, hi, ht, ho, q, oth, dep => by
    have e1 : oA7_16 = o := Option.some.inj ho
    have e2 : 125 = t := Option.some.inj ht
    subst e1 e2
    exact yA7_16 E q oth dep
  | 17, t, o, a, x, hi, ht, ho, q, oth, dep => by
    have e1 : oA7_17 = o := Option.some.inj ho
    have e2 : 126 = t := Option.some.inj ht
    subst e1 e2
    exact yA7_17 E q oth dep
  | 18, t, o, a, x, hi, ht, ho, q, oth, dep => by
    have e1 : oA7_18 = o := Option.some.inj ho
    have e2 : 127 = t := Option.some.inj ht
    subst e1 e2
    exact yA7_18 E q oth dep
  | 19, t, o, a, x, hi, ht, ho, q, oth, dep => by
    have e1 : oA7_19 = o := Option.some.inj ho
    have e2 : 128 = t := Option.some.inj ht
    subst e1 e2
    exact yA7_19 E q oth dep
  | 20, t, o, a, x, hi, ht, ho, q, oth, dep => by
    have e1 : oA7_20 = o := Option.some.inj ho
    have e2 : 129 = t := Option.some.inj ht
    subst e1 e2
    exact yA7_20 E q oth dep
  | 21, t, o, a, x, hi, ht, ho, q, oth, dep => by
    have e1 : oA7_21 = o := Option.some.inj ho
    have e2 : 130 = t := Option.some.inj ht
    subst e1 e2
    exact yA7_21 E q oth dep
  | 22, t, o, a, x, hi, ht, ho, q, oth, dep => by
    have e1 : oA7_22 = o := Option.some.inj ho
    have e2 : 131 = t := Option.some.inj ht
    subst e1 e2
    exact yA7_22 E q oth dep
  | i + 23, t, o, a, x, hi, ht, ho, q, oth, dep => absurd hi (by omega)
theorem regionA7 {id : Nat} {l : List Oper} {R : Exit → Act → World → Prop} {a0 : Act} {w : World} {BO k B6 k2 : Nat} {aX aS : Option Addr} {nX cX nS cS n0 : Nat} {X S : List Nat} (hl : l = opsA7) (hsz : a0.tmps.size = 172) (E : EnvA7 a0 w BO k B6 k2 aX aS nX cX nS cS n0 X S)
    (hR : ∀ x la lc v109 v110 v111 v112 v113 v114 v115 v116 v117 v118 v119 v120 v121 v122 v123 v124 v125 v126 v127 v128 v129 v130 v131, Q w x → USl x (.slice la (nX + nS) lc) (X ++ S) → (∀ g o, la = some ⟨g, o, none⟩ → n0 ≤ g ∨ (la = aX ∧ nS = 0)) → (nX + nS ≤ lc ∧ (la = none → nX + nS = 0 ∧ lc = 0)) → R .normal (putAll a0 [(109, v109), (110, v110), (111, v111), (112, v112), (113, v113), (114, v114), (115, v115), (116, v116), (117, v117), (118, v118), (119, v119), (120, v120), (121, v121), (122, v122), (123, v123), (124, v124), (125, v125), (126, v126), (127, v127), (128, v128), (129, v129), (130, v130), (131, v131)]) (x.setCell ⟨BO, k, none⟩ (.slice la (nX + nS) lc))) :
    (Code.region id l.toArray true).wp Tryd.prog R a0 w := by
  subst hl
  refine wp_region_facts 23 sA7 (specAt (spA7 BO k B6 k2 aX aS nX cX nS cS n0 X S)) [] (by kernel_rfl) (by decide +kernel) (by decide) rfl (by decide) (fun t ht => ?_) specAt.next (fun i v x hi hf => by cases hi) (hopA7 E) (fun a x q size defers other facts apart => ?_)
  · rw [hsz]
    revert t
    decide
  · obtain ⟨u0, t0, f0⟩ := facts 0 109 (by decide) rfl
    obtain ⟨u1, t1, f1⟩ := facts 1 110 (by decide) rfl
    obtain ⟨u2, t2, f2⟩ := facts 2 111 (by decide) rfl
    obtain ⟨u3, t3, f3⟩ := facts 3 112 (by decide) rfl
    obtain ⟨u4, t4, f4⟩ := facts 4 113 (by decide) rfl
    obtain ⟨u5, t5, f5⟩ := facts 5 114 (by decide) rfl
    obtain ⟨u6, t6, f6⟩ := facts 6 115 (by decide) rfl
    obtain ⟨u7, t7, f7⟩ := facts 7 116 (by decide) rfl
    obtain ⟨u8, t8, f8⟩ := facts 8 117 (by decide) rfl
    obtain ⟨u9, t9, f9⟩ := facts 9 118 (by decide) rfl
    obtain ⟨u10, t10, f10⟩ := facts 10 119 (by decide) rfl
    obtain ⟨u11, t11, f11⟩ := facts 11 120 (by decide) rfl
    obtain ⟨u12, t12, f12⟩ := facts 12 121 (by decide) rfl
    obtain ⟨u13, t13, f13⟩ := facts 13 122 (by decide) rfl
    obtain ⟨u14, t14, f14⟩ := facts 14 123 (by decide) rfl
    obtain ⟨u15, t15, f15⟩ := facts 15 124 (by decide) rfl
    obtain ⟨u16, t16, f16⟩ := facts 16 125 (by decide) rfl
    obtain ⟨u17, t17, f17⟩ := facts 17 126 (by decide) rfl
    obtain ⟨u18, t18, f18⟩ := facts 18 127 (by decide) rfl
    obtain ⟨u19, t19, f19⟩ := facts 19 128 (by decide) rfl
    obtain ⟨u20, t20, f20⟩ := facts 20 129 (by decide) rfl
    obtain ⟨u21, t21, f21⟩ := facts 21 130 (by decide) rfl
    obtain ⟨u22, t22, f22⟩ := facts 22 131 (by decide) rfl
    obtain ⟨la, lc, rfl, hu, hb, hlz⟩ : ∃ la lc, u21 = .slice la (nX + nS) lc ∧ USl x (.slice la (nX + nS) lc) (X ++ S) ∧ (∀ g o, la = some ⟨g, o, none⟩ → n0 ≤ g ∨ (la = aX ∧ nS = 0)) ∧ nX + nS ≤ lc ∧ (la = none → nX + nS = 0 ∧ lc = 0) := f21
    have f22 : u22 = .pointer (some ⟨BO, k, none⟩) := f22
    subst f22
    have hA := act_puts (a := a) (a0 := a0) [(109, u0), (110, u1), (111, u2), (112, u3), (113, u4), (114, u5), (115, u6), (116, u7), (117, u8), (118, u9), (119, u10), (120, u11), (121, u12), (122, u13), (123, u14), (124, u15), (125, u16), (126, u17), (127, u18), (128, u19), (129, u20), (130, .slice la (nX + nS) lc), (131, .pointer (some ⟨BO, k, none⟩))] (show ([109, 110, 111, 112, 113, 114, 115, 116, 117, 118, 119, 120, 121, 122, 123, 124, 125, 126, 127, 128, 129, 130, 131] : List Nat).Nodup by decide) size defers (fun j hj => other j (by simpa [sA7] using hj)) (fun r hr => ?_)
    · refine ⟨?_⟩
      show Oper.wp Tryd.prog oA7_23 a x (fun a' x' => R .normal a' x') R
      have hc : x.cell? ⟨BO, k, none⟩ = some (.slice aX nX cX) := q.cell E.cx
      have hf : x.frozen? ⟨BO, k, none⟩ = false := by rw [q.2]; exact E.fo k
      have e1 := tmp_eval t22
      have e2 := tmp_eval t21
      have hrun : (execOp a.eval oA7_23).run Tryd.prog x = .ok .skip (x.setCell ⟨BO, k, none⟩ (.slice la (nX + nS) lc)) := by
        exact run_stA e1 e2 hc hf
      unfold Oper.wp
      rw [hrun, Oper.upon_skip]
      have := hR x la lc u0 u1 u2 u3 u4 u5 u6 u7 u8 u9 u10 u11 u12 u13 u14 u15 u16 u17 u18 u19 u20 (.slice la (nX + nS) lc) (.pointer (some ⟨BO, k, none⟩)) q hu hb hlz
      rw [← hA] at this
      exact this
    · simp only [List.mem_cons, List.not_mem_nil, or_false] at hr
      rcases hr with rfl | rfl | rfl | rfl | rfl | rfl | rfl | rfl | rfl | rfl | rfl | rfl | rfl | rfl | rfl | rfl | rfl | rfl | rfl | rfl | rfl | rfl | rfl
      · exact t0
      · exact t1
      · exact t2
      · exact t3
      · exact t4
      · exact t5
      · exact t6
      · exact t7
      · exact t8
      · exact t9
      · exact t10
      · exact t11
      · exact t12
      · exact t13
      · exact t14
      · exact t15
      · exact t16
      · exact t17
      · exact t18
      · exact t19
      · exact t20
      · exact t21
      · exact t22
theorem normA7 {t0 t1 t2 t3 t4 t5 t6 t7 t8 t9 t10 t11 t12 t13 t14 t15 t16 t17 t18 t19 t20 t21 t22 t23 t24 t25 t26 t27 t28 t29 t30 t31 t32 t33 t34 t35 t36 t37 t38 t39 t40 t41 t42 t43 t44 t45 t46 t47 t48 t49 t50 t51 t52 t53 t54 t55 t56 t57 t58 t59 t60 t61 t62 t63 t64 t65 t66 t67 t68 t69 t70 t71 t72 t73 t74 t75 t76 t77 t78 t79 t80 t81 t82 t83 t84 t85 t86 t87 t88 t89 t90 t91 t92 t93 t94 t95 t96 t97 t98 t99 t100 t101 t102 t103 t104 t105 t106 t107 t108 t109 t110 t111 t112 t113 t114 t115 t116 t117 t118 t119 t120 t121 t122 t123 t124 t125 t126 t127 t128 t129 t130 t131 t132 t133 t134 t135 t136 t137 t138 t139 t140 t141 t142 t143 t144 t145 t146 t147 t148 t149 t150 t151 t152 t153 t154 t155 t156 t157 t158 t159 t160 t161 t162 t163 t164 t165 t166 t167 t168 t169 t170 t171 v109 v110 v111 v112 v113 v114 v115 v116 v117 v118 v119 v120 v121 v122 v123 v124 v125 v126 v127 v128 v129 v130 v131 : Value} {d : List Deferred} : putAll ⟨#[t0, t1, t2, t3, t4, t5, t6, t7, t8, t9, t10, t11, t12, t13, t14, t15, t16, t17, t18, t19, t20, t21, t22, t23, t24, t25, t26, t27, t28, t29, t30, t31, t32, t33, t34, t35, t36, t37, t38, t39, t40, t41, t42, t43, t44, t45, t46, t47, t48, t49, t50, t51, t52, t53, t54, t55, t56, t57, t58, t59, t60, t61, t62, t63, t64, t65, t66, t67, t68, t69, t70, t71, t72, t73, t74, t75, t76, t77, t78, t79, t80, t81, t82, t83, t84, t85, t86, t87, t88, t89, t90, t91, t92, t93, t94, t95, t96, t97, t98, t99, t100, t101, t102, t103, t104, t105, t106, t107, t108, t109, t110, t111, t112, t113, t114, t115, t116, t117, t118, t119, t120, t121, t122, t123, t124, t125, t126, t127, t128, t129, t130, t131, t132, t133, t134, t135, t136, t137, t138, t139, t140, t141, t142, t143, t144, t145, t146, t147, t148, t149, t150, t151, t152, t153, t154, t155, t156, t157, t158, t159, t160, t161, t162, t163, t164, t165, t166, t167, t168, t169, t170, t171], d⟩ [(109, v109), (110, v110), (111, v111), (112, v112), (113, v113), (114, v114), (115, v115), (116, v116), (117, v117), (118, v118), (119, v119), (120, v120), (121, v121), (122, v122), (123, v123), (124, v124), (125, v125), (126, v126), (127, v127), (128, v128), (129, v129), (130, v130), (131, v131)] = ⟨#[t0, t1, t2, t3, t4, t5, t6, t7, t8, t9, t10, t11, t12, t13, t14, t15, t16, t17, t18, t19, t20, t21, t22, t23, t24, t25, t26, t27, t28, t29, t30, t31, t32, t33, t34, t35, t36, t37, t38, t39, t40, t41, t42, t43, t44, t45, t46, t47, t48, t49, t50, t51, t52, t53, t54, t55, t56, t57, t58, t59, t60, t61, t62, t63, t64, t65, t66, t67, t68, t69, t70, t71, t72, t73, t74, t75, t76, t77, t78, t79, t80, t81, t82, t83, t84, t85, t86, t87, t88, t89, t90, t91, t92, t93, t94, t95, t96, t97, t98, t99, t100, t101, t102, t103, t104, t105, t106, t107, t108, v109, v110, v111, v112, v113, v114, v115, v116, v117, v118, v119, v120, v121, v122, v123, v124, v125, v126, v127, v128, v129, v130, v131, t132, t133, t134, t135, t136, t137, t138, t139, t140, t141, t142, t143, t144, t145, t146, t147, t148, t149, t150, t151, t152, t153, t154, t155, t156, t157, t158, t159, t160, t161, t162, t163, t164, t165, t166, t167, t168, t169, t170, t171], d⟩ := by
  kernel_rfl
end Go.Proofs.YtmgpaheobhfioaaDoor
