/- The document's Share: two rows that it makes, in whatever order. -/
import Derived.Test.YtcolhgngiflkhaaGae21895e
import Derived.Test.YtcolhgngiflkhaaG07fb177e
import Derived.Test.YtcolhgngiflkhaaGa5192547
import Derived.Test.YtcolhgngiflkhaaG6ca2bbe8
import Derived.Test.YtcolhgngiflkhaaG66ebe40f
import Derived.Test.YtcolhgngiflkhaaG22f8abd2
namespace Go.Proofs.Ytcolhgngiflkhaa
open Go.RowKit
set_option linter.unusedVariables false
set_option linter.unusedSimpArgs false

/-- A row of noughts that is made. -/
def rowS (B n : Nat) : Sp2 := sP (fun v x => ∃ g, v = .slice (some ⟨g, 0, none⟩) n n ∧ B ≤ g ∧ g < x.heap.size ∧ IRow x g (List.replicate n 0)) (fun v x x' ⟨g, h1, h2, h3, h4⟩ q => ⟨g, h1, h2, by have := q.1.size; omega, h4.next q⟩)
def oRs_0 : Oper := { dst := some 46, op := .move (.tmp 0), type := 62, pos := "halideref9.go:40", after := #[], guard := none }
def oRs_1 : Oper := { dst := some 47, op := .call { callee := .builtin .len, args := #[.tmp 46], argTypes := #[62] }, type := 3, pos := "halideref9.go:40", after := #[⟨0, .data⟩], guard := none }
def oRs_2 : Oper := { dst := some 48, op := .makeSlice 62 (.tmp 47) (.tmp 47), type := 62, pos := "halideref9.go:40", after := #[⟨1, .data⟩, ⟨1, .data⟩], guard := none }
def oRs_3 : Oper := { dst := some 49, op := .move (.tmp 0), type := 62, pos := "halideref9.go:40", after := #[], guard := none }
def oRs_4 : Oper := { dst := some 50, op := .call { callee := .builtin .len, args := #[.tmp 49], argTypes := #[62] }, type := 3, pos := "halideref9.go:40", after := #[⟨3, .data⟩], guard := none }
def oRs_5 : Oper := { dst := some 51, op := .makeSlice 62 (.tmp 50) (.tmp 50), type := 62, pos := "halideref9.go:40", after := #[⟨4, .data⟩, ⟨4, .data⟩], guard := none }
def oRs_6 : Oper := { dst := some 6, op := .assign (.tmp 48), type := 62, pos := "halideref9.go:40", after := #[⟨2, .data⟩, ⟨0, .phase⟩, ⟨1, .phase⟩, ⟨2, .phase⟩, ⟨3, .textOnly .lateStores⟩, ⟨4, .textOnly .lateStoresUnsure⟩, ⟨5, .textOnly .lateStoresUnsure⟩], guard := none }
def oRs_7 : Oper := { dst := some 7, op := .assign (.tmp 51), type := 62, pos := "halideref9.go:40", after := #[⟨5, .data⟩, ⟨6, .chain⟩, ⟨0, .phase⟩, ⟨1, .phase⟩, ⟨2, .phase⟩, ⟨3, .phase⟩, ⟨4, .phase⟩, ⟨5, .phase⟩, ⟨6, .phase⟩], guard := none }
def opsRs : List Oper := [oRs_0, oRs_1, oRs_2, oRs_3, oRs_4, oRs_5, oRs_6, oRs_7]
def sRs : List Nat := [46, 47, 48, 49, 50, 51, 6, 7]
def spRs (B : Nat) (ad : Option Addr) (n c : Nat) : List Sp2 := [sV (.slice ad n c), sV (.int .i64 (n : Int)), rowS B n, sV (.slice ad n c), sV (.int .i64 (n : Int)), rowS B n, sE 2, sE 5]
structure EnvRs (a0 : Act) (w : World) (B : Nat) (ad : Option Addr) (n c : Nat) : Prop where
  h0 : a0.tmps[0]? = some (.slice ad n c)
  hn : n ≤ 1048576
  hB : B ≤ w.heap.size
theorem yRs_0 {a0 : Act} {w : World} {B : Nat} {ad : Option Addr} {n c : Nat} (E : EnvRs a0 w B ad n c) {R : Exit → Act → World → Prop} {a : Act} {x : World} {val : Nat → Value} (q : Q w x) (oth : ∀ j, j ∉ sRs → a.tmps[j]? = a0.tmps[j]?) (dep : ∀ ed ∈ oRs_0.after, Region.binds .any ed = true → ∀ s' t', (spRs B ad n c)[ed.on]? = some s' → sRs[ed.on]? = some t' → a.tmps[t']? = some (val ed.on) ∧ s'.p (val ed.on) val x) : Yld Try.prog R oRs_0 a x 46 (fun v x' => (sV (.slice ad n c)).p v val x' ∧ (0 ∈ ([2, 5] : List Nat) → x.heap.size ≤ blkV v ∧ blkV v < x'.heap.size)) := by
  exact yld_move ((oth 0 (by decide)).trans E.h0) ⟨rfl, fun h => absurd h (by decide)⟩
theorem yRs_1 {a0 : Act} {w : World} {B : Nat} {ad : Option Addr} {n c : Nat} (E : EnvRs a0 w B ad n c) {R : Exit → Act → World → Prop} {a : Act} {x : World} {val : Nat → Value} (q : Q w x) (oth : ∀ j, j ∉ sRs → a.tmps[j]? = a0.tmps[j]?) (dep : ∀ ed ∈ oRs_1.after, Region.binds .any ed = true → ∀ s' t', (spRs B ad n c)[ed.on]? = some s' → sRs[ed.on]? = some t' → a.tmps[t']? = some (val ed.on) ∧ s'.p (val ed.on) val x) : Yld Try.prog R oRs_1 a x 47 (fun v x' => (sV (.int .i64 (n : Int))).p v val x' ∧ (1 ∈ ([2, 5] : List Nat) → x.heap.size ≤ blkV v ∧ blkV v < x'.heap.size)) := by
  obtain ⟨t0, f0⟩ := dep ⟨0, .data⟩ (by simp [oRs_1]) rfl _ 46 rfl rfl
  have f0 : val 0 = (.slice ad n c) := f0
  rw [f0] at t0
  exact yld_run (x' := x) rfl (by simp [oRs_1, execOp, resolve, invoke, builtin, t0, go_sem]) (Q.refl x) ⟨rfl, fun h => absurd h (by decide)⟩
theorem yRs_2 {a0 : Act} {w : World} {B : Nat} {ad : Option Addr} {n c : Nat} (E : EnvRs a0 w B ad n c) {R : Exit → Act → World → Prop} {a : Act} {x : World} {val : Nat → Value} (q : Q w x) (oth : ∀ j, j ∉ sRs → a.tmps[j]? = a0.tmps[j]?) (dep : ∀ ed ∈ oRs_2.after, Region.binds .any ed = true → ∀ s' t', (spRs B ad n c)[ed.on]? = some s' → sRs[ed.on]? = some t' → a.tmps[t']? = some (val ed.on) ∧ s'.p (val ed.on) val x) : Yld Try.prog R oRs_2 a x 48 (fun v x' => (rowS B n).p v val x' ∧ (2 ∈ ([2, 5] : List Nat) → x.heap.size ≤ blkV v ∧ blkV v < x'.heap.size)) := by
  obtain ⟨t1, f1⟩ := dep ⟨1, .data⟩ (by simp [oRs_2]) rfl _ 47 rfl rfl
  have f1 : val 1 = (.int .i64 (n : Int)) := f1
  rw [f1] at t1
  obtain ⟨M, hM, hF⟩ := make_i n E.hn
  have hrun : (execOp a.eval oRs_2).run Try.prog x = .ok (.value (.slice (some ⟨x.heap.size, 0, none⟩) n n)) (x.alloc (.cells M 3)) := by
    have := tmp_eval t1
    simp [oRs_2, execOp, this, hM]
  have := q.1.size
  have := E.hB
  exact yld_run rfl hrun ((Q.refl x).cells _ _) ⟨⟨_, rfl, by omega, by simp, hF x⟩, fun _ => ⟨Nat.le_refl _, by simp [blkV]⟩⟩
theorem yRs_3 {a0 : Act} {w : World} {B : Nat} {ad : Option Addr} {n c : Nat} (E : EnvRs a0 w B ad n c) {R : Exit → Act → World → Prop} {a : Act} {x : World} {val : Nat → Value} (q : Q w x) (oth : ∀ j, j ∉ sRs → a.tmps[j]? = a0.tmps[j]?) (dep : ∀ ed ∈ oRs_3.after, Region.binds .any ed = true → ∀ s' t', (spRs B ad n c)[ed.on]? = some s' → sRs[ed.on]? = some t' → a.tmps[t']? = some (val ed.on) ∧ s'.p (val ed.on) val x) : Yld Try.prog R oRs_3 a x 49 (fun v x' => (sV (.slice ad n c)).p v val x' ∧ (3 ∈ ([2, 5] : List Nat) → x.heap.size ≤ blkV v ∧ blkV v < x'.heap.size)) := by
  exact yld_move ((oth 0 (by decide)).trans E.h0) ⟨rfl, fun h => absurd h (by decide)⟩
theorem yRs_4 {a0 : Act} {w : World} {B : Nat} {ad : Option Addr} {n c : Nat} (E : EnvRs a0 w B ad n c) {R : Exit → Act → World → Prop} {a : Act} {x : World} {val : Nat → Value} (q : Q w x) (oth : ∀ j, j ∉ sRs → a.tmps[j]? = a0.tmps[j]?) (dep : ∀ ed ∈ oRs_4.after, Region.binds .any ed = true → ∀ s' t', (spRs B ad n c)[ed.on]? = some s' → sRs[ed.on]? = some t' → a.tmps[t']? = some (val ed.on) ∧ s'.p (val ed.on) val x) : Yld Try.prog R oRs_4 a x 50 (fun v x' => (sV (.int .i64 (n : Int))).p v val x' ∧ (4 ∈ ([2, 5] : List Nat) → x.heap.size ≤ blkV v ∧ blkV v < x'.heap.size)) := by
  obtain ⟨t3, f3⟩ := dep ⟨3, .data⟩ (by simp [oRs_4]) rfl _ 49 rfl rfl
  have f3 : val 3 = (.slice ad n c) := f3
  rw [f3] at t3
  exact yld_run (x' := x) rfl (by simp [oRs_4, execOp, resolve, invoke, builtin, t3, go_sem]) (Q.refl x) ⟨rfl, fun h => absurd h (by decide)⟩
theorem yRs_5 {a0 : Act} {w : World} {B : Nat} {ad : Option Addr} {n c : Nat} (E : EnvRs a0 w B ad n c) {R : Exit → Act → World → Prop} {a : Act} {x : World} {val : Nat → Value} (q : Q w x) (oth : ∀ j, j ∉ sRs → a.tmps[j]? = a0.tmps[j]?) (dep : ∀ ed ∈ oRs_5.after, Region.binds .any ed = true → ∀ s' t', (spRs B ad n c)[ed.on]? = some s' → sRs[ed.on]? = some t' → a.tmps[t']? = some (val ed.on) ∧ s'.p (val ed.on) val x) : Yld Try.prog R oRs_5 a x 51 (fun v x' => (rowS B n).p v val x' ∧ (5 ∈ ([2, 5] : List Nat) → x.heap.size ≤ blkV v ∧ blkV v < x'.heap.size)) := by
  obtain ⟨t4, f4⟩ := dep ⟨4, .data⟩ (by simp [oRs_5]) rfl _ 50 rfl rfl
  have f4 : val 4 = (.int .i64 (n : Int)) := f4
  rw [f4] at t4
  obtain ⟨M, hM, hF⟩ := make_i n E.hn
  have hrun : (execOp a.eval oRs_5).run Try.prog x = .ok (.value (.slice (some ⟨x.heap.size, 0, none⟩) n n)) (x.alloc (.cells M 3)) := by
    have := tmp_eval t4
    simp [oRs_5, execOp, this, hM]
  have := q.1.size
  have := E.hB
  exact yld_run rfl hrun ((Q.refl x).cells _ _) ⟨⟨_, rfl, by omega, by simp, hF x⟩, fun _ => ⟨Nat.le_refl _, by simp [blkV]⟩⟩
theorem yRs_6 {a0 : Act} {w : World} {B : Nat} {ad : Option Addr} {n c : Nat} (E : EnvRs a0 w B ad n c) {R : Exit → Act → World → Prop} {a : Act} {x : World} {val : Nat → Value} (q : Q w x) (oth : ∀ j, j ∉ sRs → a.tmps[j]? = a0.tmps[j]?) (dep : ∀ ed ∈ oRs_6.after, Region.binds .any ed = true → ∀ s' t', (spRs B ad n c)[ed.on]? = some s' → sRs[ed.on]? = some t' → a.tmps[t']? = some (val ed.on) ∧ s'.p (val ed.on) val x) : Yld Try.prog R oRs_6 a x 6 (fun v x' => (sE 2).p v val x' ∧ (6 ∈ ([2, 5] : List Nat) → x.heap.size ≤ blkV v ∧ blkV v < x'.heap.size)) := by
  obtain ⟨t2, f2⟩ := dep ⟨2, .data⟩ (by simp [oRs_6]) rfl _ 48 rfl rfl
  exact yld_run (x' := x) rfl (by rw [← tmp_eval t2]; rfl) (Q.refl x) ⟨rfl, fun h => absurd h (by decide)⟩
theorem yRs_7 {a0 : Act} {w : World} {B : Nat} {ad : Option Addr} {n c : Nat} (E : EnvRs a0 w B ad n c) {R : Exit → Act → World → Prop} {a : Act} {x : World} {val : Nat → Value} (q : Q w x) (oth : ∀ j, j ∉ sRs → a.tmps[j]? = a0.tmps[j]?) (dep : ∀ ed ∈ oRs_7.after, Region.binds .any ed = true → ∀ s' t', (spRs B ad n c)[ed.on]? = some s' → sRs[ed.on]? = some t' → a.tmps[t']? = some (val ed.on) ∧ s'.p (val ed.on) val x) : Yld Try.prog R oRs_7 a x 7 (fun v x' => (sE 5).p v val x' ∧ (7 ∈ ([2, 5] : List Nat) → x.heap.size ≤ blkV v ∧ blkV v < x'.heap.size)) := by
  obtain ⟨t5, f5⟩ := dep ⟨5, .data⟩ (by simp [oRs_7]) rfl _ 51 rfl rfl
  exact yld_run (x' := x) rfl (by rw [← tmp_eval t5]; rfl) (Q.refl x) ⟨rfl, fun h => absurd h (by decide)⟩
theorem hopRs {a0 : Act} {w : World} {B : Nat} {ad : Option Addr} {n c : Nat} (E : EnvRs a0 w B ad n c) {R : Exit → Act → World → Prop} : ∀ (i t : Nat) (o : Oper) (sp : Sp2) (a : Act) (x : World) (val : Nat → Value), sRs[i]? = some t → opsRs[i]? = some o → (spRs B ad n c)[i]? = some sp → Q w x → (∀ j, j ∉ sRs → a.tmps[j]? = a0.tmps[j]?) → (∀ ed ∈ o.after, Region.binds .any ed = true → ∀ s' t', (spRs B ad n c)[ed.on]? = some s' → sRs[ed.on]? = some t' → a.tmps[t']? = some (val ed.on) ∧ s'.p (val ed.on) val x) → Yld Try.prog R o a x t (fun v x' => sp.p v val x' ∧ (i ∈ ([2, 5] : List Nat) → x.heap.size ≤ blkV v ∧ blkV v < x'.heap.size))
  | 0, t, o, sp, a, x, val, ht, ho, hs, q, oth, dep => by
    have e1 : oRs_0 = o := Option.some.inj ho
    have e2 : 46 = t := Option.some.inj ht
    have e3 := Option.some.inj hs
    subst e1 e2 e3
    exact yRs_0 E q oth dep
  | 1, t, o, sp, a, x, val, ht, ho, hs, q, oth, dep => by
    have e1 : oRs_1 = o := Option.some.inj ho
    have e2 : 47 = t := Option.some.inj ht
    have e3 := Option.some.inj hs
    subst e1 e2 e3
    exact yRs_1 E q oth dep
  | 2, t, o, sp, a, x, val, ht, ho, hs, q, oth, dep => by
    have e1 : oRs_2 = o := Option.some.inj ho
    have e2 : 48 = t := Option.some.inj ht
    have e3 := Option.some.inj hs
    subst e1 e2 e3
    exact yRs_2 E q oth dep
  | 3, t, o, sp, a, x, val, ht, ho, hs, q, oth, dep => by
    have e1 : oRs_3 = o := Option.some.inj ho
    have e2 : 49 = t := Option.some.inj ht
    have e3 := Option.some.inj hs
    subst e1 e2 e3
    exact yRs_3 E q oth dep
  | 4, t, o, sp, a, x, val, ht, ho, hs, q, oth, dep => by
    have e1 : oRs_4 = o := Option.some.inj ho
    have e2 : 50 = t := Option.some.inj ht
    have e3 := Option.some.inj hs
    subst e1 e2 e3
    exact yRs_4 E q oth dep
  | 5, t, o, sp, a, x, val, ht, ho, hs, q, oth, dep => by
    have e1 : oRs_5 = o := Option.some.inj ho
    have e2 : 51 = t := Option.some.inj ht
    have e3 := Option.some.inj hs
    subst e1 e2 e3
    exact yRs_5 E q oth dep
  | 6, t, o, sp, a, x, val, ht, ho, hs, q, oth, dep => by
    have e1 : oRs_6 = o := Option.some.inj ho
    have e2 : 6 = t := Option.some.inj ht
    have e3 := Option.some.inj hs
    subst e1 e2 e3
    exact yRs_6 E q oth dep
  | 7, t, o, sp, a, x, val, ht, ho, hs, q, oth, dep => by
    have e1 : oRs_7 = o := Option.some.inj ho
    have e2 : 7 = t := Option.some.inj ht
    have e3 := Option.some.inj hs
    subst e1 e2 e3
    exact yRs_7 E q oth dep
  | i + 8, t, o, sp, a, x, val, ht, ho, hs, q, oth, dep => by cases ho
set_option maxHeartbeats 1000000 in
theorem regionRs {id : Nat} {l : List Oper} {R : Exit → Act → World → Prop} {a0 : Act} {w : World} {B : Nat} {ad : Option Addr} {n c : Nat} (hl : l = opsRs) (hsz : a0.tmps.size = 119) (E : EnvRs a0 w B ad n c)
    (hR : ∀ x g gr, Q w x → B ≤ g → B ≤ gr → g ≠ gr → g < x.heap.size → gr < x.heap.size → IRow x g (List.replicate n 0) → IRow x gr (List.replicate n 0) → R .normal (putAll a0 [(46, .slice ad n c), (47, .int .i64 (n : Int)), (48, .slice (some ⟨g, 0, none⟩) n n), (49, .slice ad n c), (50, .int .i64 (n : Int)), (51, .slice (some ⟨gr, 0, none⟩) n n), (6, .slice (some ⟨g, 0, none⟩) n n), (7, .slice (some ⟨gr, 0, none⟩) n n)]) x) :
    (Code.region id l.toArray true).wp Try.prog R a0 w := by
  subst hl
  refine wp_region_new sRs (spRs B ad n c) [[], [], [], [], [], [], [2], [5]] [2, 5] (by kernel_rfl) (by decide +kernel) (by decide +kernel) rfl (fun t ht => ?_) (hopRs E) (fun a x val q size defers other facts apart => ?_)
  · rw [hsz]
    revert t
    decide
  · obtain ⟨t0, f0⟩ := facts 0 46 _ rfl rfl
    have f0 : val 0 = (.slice ad n c) := f0
    rw [f0] at t0
    obtain ⟨t1, f1⟩ := facts 1 47 _ rfl rfl
    have f1 : val 1 = (.int .i64 (n : Int)) := f1
    rw [f1] at t1
    obtain ⟨t2, f2⟩ := facts 2 48 _ rfl rfl
    obtain ⟨t3, f3⟩ := facts 3 49 _ rfl rfl
    have f3 : val 3 = (.slice ad n c) := f3
    rw [f3] at t3
    obtain ⟨t4, f4⟩ := facts 4 50 _ rfl rfl
    have f4 : val 4 = (.int .i64 (n : Int)) := f4
    rw [f4] at t4
    obtain ⟨t5, f5⟩ := facts 5 51 _ rfl rfl
    obtain ⟨t6, f6⟩ := facts 6 6 _ rfl rfl
    have f6 : val 6 = val 2 := f6
    obtain ⟨t7, f7⟩ := facts 7 7 _ rfl rfl
    have f7 : val 7 = val 5 := f7
    obtain ⟨g, e2, a1, a2, a3⟩ := f2
    obtain ⟨gr, e5, b1, b2, b3⟩ := f5
    have ap := apart 2 5 (by simp) (by simp) (by decide) (by decide) (by decide)
    rw [e2, e5] at ap
    rw [f6, e2] at t6
    rw [f7, e5] at t7
    rw [e2] at t2
    rw [e5] at t5
    have hA := act_puts (a := a) (a0 := a0) [(46, .slice ad n c), (47, .int .i64 (n : Int)), (48, .slice (some ⟨g, 0, none⟩) n n), (49, .slice ad n c), (50, .int .i64 (n : Int)), (51, .slice (some ⟨gr, 0, none⟩) n n), (6, .slice (some ⟨g, 0, none⟩) n n), (7, .slice (some ⟨gr, 0, none⟩) n n)] (show ([46, 47, 48, 49, 50, 51, 6, 7] : List Nat).Nodup by decide) size defers (fun j hj => other j (by simpa [sRs] using hj)) (fun r hr => ?_)
    · refine ⟨?_⟩
      rw [hA]
      exact hR x g gr q a1 b1 ap a2 b2 a3 b3
    · simp only [List.mem_cons, List.not_mem_nil, or_false] at hr
      rcases hr with rfl | rfl | rfl | rfl | rfl | rfl | rfl | rfl
      · exact t0
      · exact t1
      · exact t2
      · exact t3
      · exact t4
      · exact t5
      · exact t6
      · exact t7
set_option maxRecDepth 100000 in
theorem normRs {t0 t1 t2 t3 t4 t5 t6 t7 t8 t9 t10 t11 t12 t13 t14 t15 t16 t17 t18 t19 t20 t21 t22 t23 t24 t25 t26 t27 t28 t29 t30 t31 t32 t33 t34 t35 t36 t37 t38 t39 t40 t41 t42 t43 t44 t45 t46 t47 t48 t49 t50 t51 t52 t53 t54 t55 t56 t57 t58 t59 t60 t61 t62 t63 t64 t65 t66 t67 t68 t69 t70 t71 t72 t73 t74 t75 t76 t77 t78 t79 t80 t81 t82 t83 t84 t85 t86 t87 t88 t89 t90 t91 t92 t93 t94 t95 t96 t97 t98 t99 t100 t101 t102 t103 t104 t105 t106 t107 t108 t109 t110 t111 t112 t113 t114 t115 t116 t117 t118 v46 v47 v48 v49 v50 v51 v6 v7 : Value} {d : List Deferred} : putAll ⟨#[t0, t1, t2, t3, t4, t5, t6, t7, t8, t9, t10, t11, t12, t13, t14, t15, t16, t17, t18, t19, t20, t21, t22, t23, t24, t25, t26, t27, t28, t29, t30, t31, t32, t33, t34, t35, t36, t37, t38, t39, t40, t41, t42, t43, t44, t45, t46, t47, t48, t49, t50, t51, t52, t53, t54, t55, t56, t57, t58, t59, t60, t61, t62, t63, t64, t65, t66, t67, t68, t69, t70, t71, t72, t73, t74, t75, t76, t77, t78, t79, t80, t81, t82, t83, t84, t85, t86, t87, t88, t89, t90, t91, t92, t93, t94, t95, t96, t97, t98, t99, t100, t101, t102, t103, t104, t105, t106, t107, t108, t109, t110, t111, t112, t113, t114, t115, t116, t117, t118], d⟩ [(46, v46), (47, v47), (48, v48), (49, v49), (50, v50), (51, v51), (6, v6), (7, v7)] = ⟨#[t0, t1, t2, t3, t4, t5, v6, v7, t8, t9, t10, t11, t12, t13, t14, t15, t16, t17, t18, t19, t20, t21, t22, t23, t24, t25, t26, t27, t28, t29, t30, t31, t32, t33, t34, t35, t36, t37, t38, t39, t40, t41, t42, t43, t44, t45, v46, v47, v48, v49, v50, v51, t52, t53, t54, t55, t56, t57, t58, t59, t60, t61, t62, t63, t64, t65, t66, t67, t68, t69, t70, t71, t72, t73, t74, t75, t76, t77, t78, t79, t80, t81, t82, t83, t84, t85, t86, t87, t88, t89, t90, t91, t92, t93, t94, t95, t96, t97, t98, t99, t100, t101, t102, t103, t104, t105, t106, t107, t108, t109, t110, t111, t112, t113, t114, t115, t116, t117, t118], d⟩ := by
  kernel_rfl
end Go.Proofs.Ytcolhgngiflkhaa
/- The document's Share, walked. -/
namespace Go.Proofs.Ytcolhgngiflkhaa
open Go.RowKit
theorem anyT_hit {l : List Int} {i : Nat} (h : tooB (l.getD i 0) = true) : ∀ k, i < k → anyT l k = true
  | 0, hk => by omega
  | k + 1, hk => by
    show (anyT l k || tooB (l.getD k 0)) = true
    by_cases e : i = k
    · subst e; rw [h, Bool.or_true]
    · rw [anyT_hit h k (by omega)]; rfl
theorem tooB_of {z : Int} (h1 : ¬ 1099511627776 < z) (h2 : ¬ z < -1099511627776) : tooB z = false := by unfold tooB; rw [decide_eq_false h1, decide_eq_false h2]; rfl
theorem tooB_hi {z : Int} (h1 : 1099511627776 < z) : tooB z = true := by unfold tooB; rw [decide_eq_true h1, Bool.or_true]
theorem tooB_lo {z : Int} (h1 : z < -1099511627776) : tooB z = true := by unfold tooB; rw [decide_eq_true h1]; rfl
/-- What Share holds while it divides, and while it gives what is missing. -/
structure Ds (w wr : World) (f h : Nat → Int) (n g gr : Nat) : Prop where
  q : Q w wr
  l : IRow wr g (tabI n f)
  r : IRow wr gr (tabI n h)
  l1 : w.heap.size ≤ g
  l2 : w.heap.size ≤ gr
  ne : g ≠ gr
theorem Ds.next {w wr x : World} {f h : Nat → Int} {n g gr : Nat} (D : Ds w wr f h n g gr) (q : Q wr x) : Ds w x f h n g gr := ⟨D.q.trans q, D.l.next q, D.r.next q, D.l1, D.l2, D.ne⟩
theorem Ds.setl {w wr : World} {f h f' : Nat → Int} {n g gr : Nat} (D : Ds w wr f h n g gr) {i : Nat} (hi : i < n) {u : Int} (hu : u = f' i) (hs : ∀ j, j ≠ i → f' j = f j) : Ds w (wr.setCell ⟨g, i, none⟩ (.int .i64 u)) f' h n g gr := by
  refine ⟨D.q.set D.l1 _, ?_, D.r.other (p := ⟨g, i, none⟩) D.ne _, D.l1, D.l2, D.ne⟩
  have := D.l.set (i := i) (by rw [tabI_len]; exact hi) u
  rw [tabI_set (g := f') hu hs] at this
  exact this
theorem Ds.setr {w wr : World} {f h h' : Nat → Int} {n g gr : Nat} (D : Ds w wr f h n g gr) {i : Nat} (hi : i < n) {u : Int} (hu : u = h' i) (hs : ∀ j, j ≠ i → h' j = h j) : Ds w (wr.setCell ⟨gr, i, none⟩ (.int .i64 u)) f h' n g gr := by
  refine ⟨D.q.set D.l2 _, D.l.other (p := ⟨gr, i, none⟩) (fun e => D.ne e.symm) _, ?_, D.l1, D.l2, D.ne⟩
  have := D.r.set (i := i) (by rw [tabI_len]; exact hi) u
  rw [tabI_set (g := h') hu hs] at this
  exact this
def partF (f : Nat → Int) (i j : Nat) : Int := if j < i then f j else 0
theorem partF_new (f : Nat → Int) (i : Nat) : f i = partF f (i + 1) i := by unfold partF; rw [if_pos (by omega)]
theorem partF_old (f : Nat → Int) (i : Nat) : ∀ j, j ≠ i → partF f (i + 1) j = partF f i j := fun j hj => by
  unfold partF
  by_cases c : j < i
  · rw [if_pos c, if_pos (by omega)]
  · rw [if_neg c, if_neg (by omega)]
theorem sumF_flo_bd {z : Nat → Int} {S : Int} (hS : 0 < S) (hM : ∀ i, -1099511627776 ≤ z i ∧ z i ≤ 1099511627776) (n : Nat) : -((n : Int) * 72057594037927936) ≤ sumF (flo z S) n ∧ sumF (flo z S) n ≤ (n : Int) * 72057594037927936 := by
  refine ⟨?_, ?_⟩
  · have := sumF_mono (f := fun _ => -72057594037927936) (g := flo z S) n (fun i _ => (flo_size (i := i) hS (hM i)).1)
    rw [sumF_const] at this
    omega
  · have := sumF_mono (f := flo z S) (g := fun _ => 72057594037927936) n (fun i _ => (flo_size (i := i) hS (hM i)).2)
    rw [sumF_const] at this
    omega
end Go.Proofs.Ytcolhgngiflkhaa
/- The document's Share, of weights that may be. -/
namespace Go.Proofs.Ytcolhgngiflkhaa
open Go.RowKit
end Go.Proofs.Ytcolhgngiflkhaa
/- The document's weights. -/
namespace Go.Proofs.Ytcolhgngiflkhaa
open Go.RowKit
theorem mx_abs (a : Int) : ∀ (ts : Array TypeId) (t : TypeId) (w : World), (Builtin.max_ ts t #[.int .i64 a, .int .i64 (-a)]).run Try.prog w = .ok (.int .i64 (absI a)) w := fun ts t w => by rw [← absI_max]; exact run_mx2 ts t _ _ w
end Go.Proofs.Ytcolhgngiflkhaa
/- The chapter's examples: known. -/
namespace Go.Proofs.Ytcolhgngiflkhaa
open Go.RowKit
set_option linter.unusedVariables false
set_option linter.unusedSimpArgs false

theorem shr_none {z : Nat → Int} {n : Nat} {S : Int} (h1 : sumF z n = S) (h2 : missV z S n = 0) (i : Nat) : shrV z n i = flo z S i := by
  unfold shrV; rw [h1, h2]; exact shrK_zero _ _ _ _
theorem tk1 : wlsV 2 2 4 1 = [(0, 6), (1, 2)] := by decide
theorem tk2 : wlsV 3 2 4 1 = [(0, 816), (1, 208)] := by decide
theorem tk1' : tapsL (wlsV 2 2 4 1) = [(0, 49152), (1, 16384)] := by
  rw [tk1]
  have e := shr_none (z := zf [6, 2]) (n := 2) (S := 8) (by decide) (by decide)
  show tpK [(0, 6), (1, 2)] (shrV (zf [6, 2]) 2) 2 = _
  rw [show shrV (zf [6, 2]) 2 = flo (zf [6, 2]) 8 from funext e]
  decide
theorem tk2' : tapsL (wlsV 3 2 4 1) = [(0, 52224), (1, 13312)] := by
  rw [tk2]
  have e := shr_none (z := zf [816, 208]) (n := 2) (S := 1024) (by decide) (by decide)
  show tpK [(0, 816), (1, 208)] (shrV (zf [816, 208]) 2) 2 = _
  rw [show shrV (zf [816, 208]) 2 = flo (zf [816, 208]) 1024 from funext e]
  decide
theorem sk1 : tabI 3 (shrV (zf [1, 1, 1]) 3) = [21846, 21845, 21845] := by
  have o : ordL (rsV (zf [1, 1, 1]) 3) 3 = [0, 1, 2] := ordL_eq (by decide) (by unfold tlt; decide)
  have s : sumF (zf [1, 1, 1]) 3 = 3 := by decide
  have m : missV (zf [1, 1, 1]) 3 3 = 1 := by decide
  have e : shrV (zf [1, 1, 1]) 3 = fun i : Nat => flo (zf [1, 1, 1]) 3 i + if (i : Int) ∈ ([0] : List Int) then 1 else 0 := by
    funext i
    unfold shrV shrK
    rw [s, m, o]
    rfl
  rw [e]
  decide
theorem sz1 : Sz 2 4 1 := ⟨by decide, by decide, by decide, by decide, by decide, by decide⟩
theorem ok1 : shOk [1, 1, 1] := ⟨by decide, by decide, by decide, by decide⟩
end Go.Proofs.Ytcolhgngiflkhaa
/- The document's Taps: what it refuses. -/
namespace Go.Proofs.Ytcolhgngiflkhaa
open Go.RowKit
end Go.Proofs.Ytcolhgngiflkhaa
/- The document's Taps, of sizes that may be. -/
namespace Go.Proofs.Ytcolhgngiflkhaa
open Go.RowKit
set_option linter.unusedVariables false
set_option linter.unusedSimpArgs false

theorem anyT_none {zs : List Int} (h : ∀ e ∈ zs, -1099511627776 ≤ e ∧ e ≤ 1099511627776) : ∀ k, k ≤ zs.length → anyT zs k = false
  | 0, _ => rfl
  | k + 1, hk => by
    show (anyT zs k || tooB (zs.getD k 0)) = false
    have hm := h zs[k] (List.getElem_mem (by omega))
    rw [anyT_none h k (by omega), List.getD_eq_getElem?_getD, List.getElem?_eq_getElem (by omega), Option.getD_some, tooB_of (by omega) (by omega)]; rfl
theorem wgtR_size {kind m a : Int} (m0 : 1 ≤ m) (m1 : m ≤ 1024) : -17179869184 ≤ wgtR kind a (2 * m) ∧ wgtR kind a (2 * m) ≤ 17179869184 := by
  have b0 : 0 ≤ 2 * m := by omega
  have b1 : 2 * m ≤ 2048 := by omega
  have m2 := mul_bd b0 b1 b0 b1
  have m3 := mul_bd m2.1 m2.2 b0 b1
  have ha : 0 ≤ absI a := by unfold absI; omega
  have e5 : 2 * (2 * m) * (2 * m) = 2 * (2 * m * (2 * m)) := Int.mul_assoc _ _ _
  have e6 : 2 * (2 * m * (2 * m)) * (2 * m) = 2 * (2 * m * (2 * m) * (2 * m)) := Int.mul_assoc _ _ _
  unfold wgtR
  split
  · split
    · rw [e5, e6]; omega
    · omega
  · split
    · split
      · rename_i h
        have := mul_bd (x := 2 * (2 * m * (2 * m))) (X := 8388608) (y := 2 * m - absI a) (Y := 2048) (by omega) (by omega) (by omega) (by omega)
        rw [e5]; omega
      · omega
    · exact cub_size ha b0 b1
theorem tms_bound {kind : Int} {F T i : Nat} (hk : kind = 1 ∨ kind = 2 ∨ kind = 3) (h : Sz F T i) : ∀ e ∈ tms (mulR kind (max F T : Nat)) (wlsV kind F T i), -1099511627776 ≤ e.2 ∧ e.2 ≤ 1099511627776 := by
  intro e he
  have hm : 0 < ((max F T : Nat) : Int) := by have := h.f1; omega
  have hw := (win_facts (kind := kind) h).2.1
  have hn : winV kind F T i ≤ 62 := by unfold winV; omega
  unfold wlsV at he
  rw [← wrun_tms (f := wfV kind F T i) (g := wfR kind F T i) (Int.ne_of_gt (mulR_pos hm)) (fun k => wgtR_eq hk)] at he
  have := wrun_bound (f := wfR kind F T i) (pl := plV F) (a := fstV kind F T i) (B := 17179869184) (by decide) (fun k => wgtR_size (by omega) (by have := h.f2; have := h.t2; omega)) (winV kind F T i) e he
  have h62 : (winV kind F T i : Int) * 17179869184 ≤ 62 * 17179869184 := Int.mul_le_mul_of_nonneg_right (by omega) (by decide)
  omega
theorem rea_tdiv {m T : Nat} (hT : 1 ≤ T) : (2 * (m : Int)).tdiv (T : Int) = 2 * (m : Int) / (T : Int) := Int.tdiv_eq_ediv_of_nonneg (by omega)
end Go.Proofs.Ytcolhgngiflkhaa
/- Taps, both ways, whatever comes in. -/
namespace Go.Proofs.Ytcolhgngiflkhaa
open Go.RowKit
set_option linter.unusedVariables false
set_option linter.unusedSimpArgs false

/-- The taps that are told, whatever comes in. -/
def tpA (kind F T i : Int) : List (Int × Int) := if tapE kind F T i = 0 then tapsL (wlsV kind F.toNat T.toNat i.toNat) else []
theorem tapE_ok {kind F T i : Int} (h : tapE kind F T i = 0) : (kind = 1 ∨ kind = 2 ∨ kind = 3) ∧ Sz F.toNat T.toNat i.toNat ∧ ((F.toNat : Nat) : Int) = F ∧ ((T.toNat : Nat) : Int) = T ∧ ((i.toNat : Nat) : Int) = i := by
  unfold tapE at h
  split at h
  · split at h
    · split at h
      · rename_i h1 h2 h3
        exact ⟨by omega, ⟨by omega, by omega, by omega, by omega, by omega, by omega⟩, by omega, by omega, by omega⟩
      · cases h
    · cases h
  · cases h
theorem tpA_len (kind F T i : Int) : (tpA kind F T i).length ≤ 62 := by
  unfold tpA
  split
  · rename_i h
    obtain ⟨hk, hz, _⟩ := tapE_ok h
    unfold tapsL
    exact Nat.le_trans (tpK_len _ _ _) (wls_bound hz).1
  · exact Nat.zero_le _
theorem taps_all (kind F T i : Int) (w : World) : Calls Try.prog 28 #[.int .i64 kind, .int .i64 F, .int .i64 T, .int .i64 i] w fun e w' => ∃ v n, e = .returned (.tuple #[v, .int .i64 (tapE kind F T i)]) ∧ Tl w w' v (tpA kind F T i) n := by
  by_cases h : tapE kind F T i = 0
  · obtain ⟨hk, hz, e1, e2, e3⟩ := tapE_ok h
    have C := taps_good kind F.toNat T.toNat i.toNat w hk hz (wls_pos hk hz)
    rw [e1, e2, e3] at C
    unfold tpA
    rw [if_pos h, h]
    exact C
  · refine (taps_bad kind F T i w h).mono ?_
    rintro e w' ⟨h1, rfl⟩
    unfold tpA
    rw [if_neg h]
    exact ⟨_, 0, h1, Tl.start _⟩
/-- Cells that may be written over, of a list of taps that is the call's own. -/
def Wr2 (w0 wr : World) (ad : Option Addr) (n : Nat) : Prop := n = 0 ∨ ∃ g, ad = some ⟨g, 0, none⟩ ∧ w0.heap.size ≤ g ∧ ∀ j, j < n * 2 → (∃ u, wr.cell? ⟨g, j, none⟩ = some u) ∧ wr.frozen? ⟨g, j, none⟩ = false
theorem Tl.wr2 {w0 wr : World} {ad : Option Addr} {c n : Nat} {L : List (Int × Int)} (h : Tl w0 wr (.slice ad n c) L n) : Wr2 w0 wr ad n := by
  by_cases hn : n = 0
  · exact Or.inl hn
  · right
    rcases h.o.2 with ⟨_, e⟩ | ⟨g, c', cur, e1, b1, h1, h2⟩
    · omega
    · injection e1 with e1 e2 e3
      subst e1
      refine ⟨g, rfl, b1, fun j hj => ⟨?_, h.o.frozenAt j⟩⟩
      have hl : j < (newsT L).length := by rw [newsT_len, ← h.len]; exact hj
      refine ⟨(newsT L)[j], ?_⟩
      rw [h.o.cellAt j (by omega), List.getElem?_eq_getElem hl]
theorem Wr2.set {w0 wr : World} {g n : Nat} (h : Wr2 w0 wr (some ⟨g, 0, none⟩) n) (j : Nat) (v : Value) : Wr2 w0 (wr.setCell ⟨g, j, none⟩ v) (some ⟨g, 0, none⟩) n := by
  rcases h with h | ⟨g', e, h1, h2⟩
  · exact Or.inl h
  · injection e with e
    injection e with e
    subst e
    refine Or.inr ⟨g, rfl, h1, fun k hk => ⟨?_, by rw [World.frozen?_setCell]; exact (h2 k hk).2⟩⟩
    obtain ⟨u, hu⟩ := (h2 k hk).1
    by_cases e : j = k
    · subst e; exact ⟨v, World.cell?_setCell_same _ _ _ hu⟩
    · exact ⟨u, by rw [World.cell?_setCell_other _ _ _ _ (fun e' => e (by injection e'))]; exact hu⟩
end Go.Proofs.Ytcolhgngiflkhaa
/- What one sample is made of. -/
namespace Go.Proofs.Ytcolhgngiflkhaa
open Go.RowKit
set_option linter.unusedVariables false
set_option linter.unusedSimpArgs false

/-- The samples at the places of taps. -/
def pickV (L : List (Int × Int)) (S : List Nat) : List Nat := L.map fun e => S.getD e.1.toNat 0
/-- The sample that is made of taps. -/
def smpV (L : List (Int × Int)) (S : List Nat) : Nat := overW (dotF (prods (L.map Prod.snd) (pickV L S)))
/-- Taps as two lists. -/
def BlV (w : World) (v : Value) (L : List (Int × Int)) : Prop := ∃ vp vw, v = .agg #[vp, vw] ∧ ISl w vp (L.map Prod.fst) ∧ ISl w vw (L.map Prod.snd)
theorem BlV.next {w w' : World} {v : Value} {L : List (Int × Int)} (h : BlV w v L) (q : Q w w') : BlV w' v L := by
  obtain ⟨vp, vw, h1, h2, h3⟩ := h
  exact ⟨vp, vw, h1, h2.next q, h3.next q⟩
theorem fill_alloc {w w1 : World} (q : Q w w1) {b : Nat} (hb : w1.heap.size = b) (M : Array Value) (t : TypeId) (n : Nat) (hM : M.size = n) (L : Nat → Nat) : Fill w (w1.alloc (.cells M t)) b n L 0 := by
  subst hb
  have hb : (w1.alloc (.cells M t)).heap[w1.heap.size]? = some (.cells M t (0, 0)) := heap_alloc_new w1 _
  refine ⟨q.cells _ _, q.1.size, fun i hi => by omega, fun j hj => ⟨M[j]'(by omega), ?_⟩, fun j => ?_⟩
  · rw [cell_of_row _ _ j _ t (0, 0) hb, Array.getElem?_eq_getElem (by omega)]
  · unfold World.frozen?; rw [hb]; simp
theorem pickV_at {L : List (Int × Int)} {S : List Nat} {i : Nat} {e : Int × Int} (h : L[i]? = some e) : (pickV L S).getD i 0 = S.getD e.1.toNat 0 := by
  unfold pickV
  rw [List.getD_eq_getElem?_getD, List.getElem?_map, h]; rfl
set_option maxHeartbeats 4000000 in
set_option maxRecDepth 100000 in
theorem blend_of (v vl : Value) (L : List (Int × Int)) (S : List Nat) (w : World) (hv : BlV w v L) (hl : USl w vl S) (h64 : L.length ≤ 64) (hn : S.length ≤ 35184372087808) (hb : ∀ i, S.getD i 0 < 4294967296)
    (hp : ∀ e ∈ L, 0 ≤ e.1 ∧ e.1 < (S.length : Int)) (hw : ∀ e ∈ L, -268435456 ≤ e.2 ∧ e.2 ≤ 268435456) :
    Calls Try.prog 27 #[v, vl] w fun e w' => e = .returned (.int .u32 (smpV L S : Nat)) ∧ Q w w' := by
  obtain ⟨vp, vw, rfl, hP, hW⟩ := hv
  obtain ⟨aP, cP, rfl⟩ := hP.form
  obtain ⟨aW, cW, rfl⟩ := hW.form
  obtain ⟨al, cl, rfl⟩ := hl.form
  obtain ⟨N, eN⟩ : ∃ N, L.length = N := ⟨_, rfl⟩
  obtain ⟨M, eM⟩ : ∃ M, S.length = M := ⟨_, rfl⟩
  have HP : Hid (ISl w (.slice aP N cP) (L.map Prod.fst)) := by rw [List.length_map, eN] at hP; exact hP
  have HW : Hid (ISl w (.slice aW N cW) (L.map Prod.snd)) := by rw [List.length_map, eN] at hW; exact hW
  have HL : Hid (USl w (.slice al M cl) S) := by rw [eM] at hl; exact hl
  rw [List.length_map, List.length_map, eN, eM]
  rw [eN] at h64
  rw [eM] at hn
  have h64z : ¬ (64 : Int) < (N : Int) := by omega
  have HF : Hid (pickV L S = pickV L S ∧ (pickV L S).length = N) := ⟨rfl, by unfold pickV; rw [List.length_map, eN]⟩
  have HE : Hid (L.length = N ∧ S.length = M) := ⟨eN, eM⟩
  have HB : Hid (∀ i, S.getD i 0 < 4294967296) := hb
  have HPl : Hid (∀ e ∈ L, 0 ≤ e.1 ∧ e.1 < (M : Int)) := by rw [← eM]; exact hp
  have HWt : Hid (∀ e ∈ L, -268435456 ≤ e.2 ∧ e.2 ≤ 268435456) := hw
  clear hP hW hl hb hp hw eN eM
  go_enter Try.func27, Try.ntmps27
  go_wp2_with fail
  obtain ⟨w1, hw1⟩ : ∃ w1, w.alloc (.cells #[.slice aP N cP, .slice aW N cW] 64) = w1 := ⟨_, rfl⟩
  have HQ1 : Hid (Q w w1) := by rw [← hw1]; exact (Q.refl w).cells _ _
  have HC1 : Hid (w1.cell? ⟨w.heap.size, 1, none⟩ = some (.slice aW N cW)) := by show w1.cell? ⟨w.heap.size, 1, none⟩ = _; rw [← hw1]; simp [go_sem]
  have HS1 : Hid (w1.heap.size = w.heap.size + 1) := by show w1.heap.size = _; rw [← hw1]; simp
  go_loopg [7, 8, 18] N (fun gh s7 s8 s18 wr => ∃ k : Nat, s18 = .int .i64 (k : Int) ∧ k ≤ N ∧ gh = N - k ∧ Hid (Fill w1 wr (w.heap.size + 1) 64 (fun i => (pickV L S).getD i 0) k))
  case atStart => exact ⟨0, rfl, Nat.zero_le _, rfl, (by show Fill w1 _ _ _ _ _; rw [← hw1]; exact fill_alloc (Q.refl _) (by simp) _ _ 64 rfl _)⟩
  case round =>
    clear hw1
    obtain ⟨k, rfl, hk, rfl, HFl⟩ := hrel
    by_cases hlt : k < N
    · have hltz : (k : Int) < (N : Int) := by omega
      obtain ⟨e, he⟩ : ∃ e, L[k]? = some e := ⟨_, List.getElem?_eq_getElem (by rw [HE.out.1]; exact hlt)⟩
      obtain ⟨pl, wt⟩ := e
      have hpl := HPl.out _ (List.mem_of_getElem? he)
      obtain ⟨P, hP⟩ : ∃ P : Nat, pl = (P : Int) := ⟨pl.toNat, by have := hpl.1; simp only at this; omega⟩
      subst hP
      have hPM : P < M := by have := hpl.2; simp only at this; omega
      have hPz : (P : Int) < (M : Int) := by omega
      have q1 := HQ1.out.trans HFl.out.q
      obtain ⟨g1, o1, d1, hs1, hI1⟩ := (HP.out.next q1).some (by rw [List.length_map, HE.out.1]; omega)
      rw [List.length_map, HE.out.1] at hs1 hI1
      injection hs1 with e1 e2 e3
      subst e1 e3
      have c1 := hI1 k hlt
      rw [List.getD_eq_getElem?_getD, List.getElem?_map, he] at c1
      simp only [Option.map_some, Option.getD_some] at c1
      obtain ⟨g2, o2, d2, hs2, _, hI2⟩ := (HL.out.next q1).some (by rw [HE.out.2]; omega)
      rw [HE.out.2] at hs2
      injection hs2 with e4 e5 e6
      subst e4 e6
      have c2 := hI2 P (by rw [HE.out.2]; exact hPM)
      obtain ⟨x, hx⟩ : ∃ x, x = S.getD P 0 := ⟨_, rfl⟩
      rw [← hx] at c2
      obtain ⟨u, cu⟩ := HFl.out.room k (by omega)
      have fu := HFl.out.free k
      have HF2 : Hid _ := HFl.out.step (by omega : k < 64) (v := x) (by rw [hx, pickV_at he]; simp)
      have hk64 : k < 64 := by omega
      clear he hpl hI1 hI2 e2 e5 hx HFl
      go_wp2_with fail
      generalize wr.setCell ⟨w.heap.size + 1, k, none⟩ (.int .u32 (x : Nat)) = w9 at HF2 ⊢
      go_roundg (N - (k + 1))
      case measure => go_light; omega
      case rel => go_light; exact ⟨k + 1, by simp, by omega, rfl, HF2⟩
    · have hge : ¬ (k : Int) < (N : Int) := by omega
      obtain rfl : k = N := by omega
      have hown : UIs wr (w.heap.size + 1) 0 (pickV L S) := fun i hi => by rw [Nat.zero_add]; exact HFl.out.done i (by rw [HF.out.2] at hi; exact hi)
      have hus : USl wr (.slice (some ⟨w.heap.size + 1, 0, none⟩) k 64) (pickV L S) := by
        have := hown.usl (cap := 64) (by rw [HF.out.2]; exact h64)
        rw [HF.out.2] at this
        exact this
      have c1 := HFl.out.q.cell HC1.out
      have q1 := HQ1.out.trans HFl.out.q
      have C := dot_of (dot_gen (.slice aW k cW) (.slice (some ⟨w.heap.size + 1, 0, none⟩) k 64) (L.map Prod.snd) (pickV L S) wr (HW.out.next q1) hus (by rw [HF.out.2]; omega) (by rw [List.length_map, HF.out.2, HE.out.1]) (fun i => by
        unfold pickV
        rw [List.getD_eq_getElem?_getD, List.getElem?_map]
        cases L[i]? with
        | none => show 0 < 4294967296; decide
        | some e => exact HB.out _) (fun i hi => by
        rw [List.length_map] at hi
        rw [List.getD_eq_getElem?_getD, List.getElem?_map, List.getElem?_eq_getElem hi]
        have := HWt.out _ (List.getElem_mem hi)
        exact ⟨this.2, this.1⟩))
      have HS : Hid (overW (dotF (prods (L.map Prod.snd) (pickV L S))) = smpV L S) := rfl
      rw [HS.out] at C
      obtain ⟨R, hR⟩ : ∃ R, smpV L S = R := ⟨_, rfl⟩
      rw [hR] at C
      have HR : Hid (smpV L S = R) := hR
      clear hR
      have HQ : Hid (Q w wr) := q1
      clear hown hus q1 HFl
      go_wp2_with fail
      refine C.mono ?_
      rintro e w3 ⟨rfl, q3⟩
      clear C
      have HQ3 : Hid (Q w w3) := HQ.out.trans q3
      clear q3
      go_wp2_with fail
      go_ret
      exact ⟨by rw [HR.out]; rfl, HQ3.out⟩
end Go.Proofs.Ytcolhgngiflkhaa
/- blendOf: two rows and a box, in whatever order. -/
namespace Go.Proofs.Ytcolhgngiflkhaa
open Go.RowKit
set_option linter.unusedVariables false
set_option linter.unusedSimpArgs false

def sB2 (i j : Nat) : Sp2 := ⟨fun v val _ => v = .agg #[val i, val j], [i, j], fun h _ e => by rw [h, e i (by simp), e j (by simp)]⟩
/-- A new box for two lists. -/
def boxS (B : Nat) : Sp2 := sP (fun v x => ∃ g, v = .pointer (some ⟨g, 0, none⟩) ∧ B ≤ g ∧ g < x.heap.size ∧ x.cell? ⟨g, 0, none⟩ = some (.slice none 0 0) ∧ x.cell? ⟨g, 1, none⟩ = some (.slice none 0 0) ∧ ∀ j, x.frozen? ⟨g, j, none⟩ = false)
  (fun v x x' ⟨g, h1, h2, h3, h4, h5, h6⟩ q => ⟨g, h1, h2, by have := q.1.size; omega, q.cell h4, q.cell h5, fun j => by rw [q.2]; exact h6 j⟩)
structure Bld2 (B n g gr gb : Nat) (w x : World) : Prop where
  q : Q w x
  l1 : B ≤ g
  l2 : B ≤ gr
  l3 : B ≤ gb
  n12 : g ≠ gr
  n13 : g ≠ gb
  n23 : gr ≠ gb
  r1 : IRow x g (List.replicate n 0)
  r2 : IRow x gr (List.replicate n 0)
  b0 : x.cell? ⟨gb, 0, none⟩ = some (.slice (some ⟨g, 0, none⟩) n n)
  b1 : x.cell? ⟨gb, 1, none⟩ = some (.slice (some ⟨gr, 0, none⟩) n n)
def oBo_0 : Oper := { dst := some 22, op := .move (.tmp 9), type := 66, pos := "line.go:41", after := #[], guard := none }
def oBo_1 : Oper := { dst := some 23, op := .call { callee := .builtin .len, args := #[.tmp 22], argTypes := #[66] }, type := 3, pos := "line.go:41", after := #[⟨0, .data⟩], guard := none }
def oBo_2 : Oper := { dst := some 24, op := .makeSlice 62 (.tmp 23) (.tmp 23), type := 62, pos := "line.go:41", after := #[⟨1, .data⟩, ⟨1, .data⟩], guard := none }
def oBo_3 : Oper := { dst := some 25, op := .move (.tmp 9), type := 66, pos := "line.go:41", after := #[], guard := none }
def oBo_4 : Oper := { dst := some 26, op := .call { callee := .builtin .len, args := #[.tmp 25], argTypes := #[66] }, type := 3, pos := "line.go:41", after := #[⟨3, .data⟩], guard := none }
def oBo_5 : Oper := { dst := some 27, op := .makeSlice 62 (.tmp 26) (.tmp 26), type := 62, pos := "line.go:41", after := #[⟨4, .data⟩, ⟨4, .data⟩], guard := none }
def oBo_6 : Oper := { dst := some 28, op := .build 64 #[(0, .tmp 24), (1, .tmp 27)], type := 64, pos := "line.go:41", after := #[⟨2, .data⟩, ⟨5, .data⟩], guard := none }
def oBo_7 : Oper := { dst := some 11, op := .alloc 64, type := 0, pos := "line.go:41", after := #[], guard := none }
def oBo_8 : Oper := { dst := none, op := .store 64 (.tmp 11) (.tmp 28), type := 0, pos := "line.go:41", after := #[⟨7, .data⟩, ⟨6, .data⟩, ⟨0, .phase⟩, ⟨1, .phase⟩, ⟨2, .phase⟩, ⟨3, .phase⟩, ⟨4, .phase⟩, ⟨5, .phase⟩, ⟨6, .phase⟩, ⟨7, .phase⟩], guard := none }
def opsBo : List Oper := [oBo_0, oBo_1, oBo_2, oBo_3, oBo_4, oBo_5, oBo_6, oBo_7, oBo_8]
def sBo : List Nat := [22, 23, 24, 25, 26, 27, 28, 11]
def spBo (B : Nat) (ad : Option Addr) (n c : Nat) : List Sp2 := [sV (.slice ad n c), sV (.int .i64 (n : Int)), rowS B n, sV (.slice ad n c), sV (.int .i64 (n : Int)), rowS B n, sB2 2 5, boxS B]
structure EnvBo (a0 : Act) (w : World) (B : Nat) (ad : Option Addr) (n c : Nat) : Prop where
  h9 : a0.tmps[9]? = some (.slice ad n c)
  hn : n ≤ 1048576
  hB : B = w.heap.size
theorem yBo_0 {a0 : Act} {w : World} {B : Nat} {ad : Option Addr} {n c : Nat} (E : EnvBo a0 w B ad n c) {R : Exit → Act → World → Prop} {a : Act} {x : World} {val : Nat → Value} (q : Q w x) (oth : ∀ j, j ∉ sBo → a.tmps[j]? = a0.tmps[j]?) (dep : ∀ ed ∈ oBo_0.after, Region.binds .any ed = true → ∀ s' t', (spBo B ad n c)[ed.on]? = some s' → sBo[ed.on]? = some t' → a.tmps[t']? = some (val ed.on) ∧ s'.p (val ed.on) val x) : Yld Try.prog R oBo_0 a x 22 (fun v x' => (sV (.slice ad n c)).p v val x' ∧ (0 ∈ ([2, 5, 7] : List Nat) → x.heap.size ≤ blkV v ∧ blkV v < x'.heap.size)) := by
  exact yld_move ((oth 9 (by decide)).trans E.h9) ⟨rfl, fun h => absurd h (by decide)⟩
theorem yBo_1 {a0 : Act} {w : World} {B : Nat} {ad : Option Addr} {n c : Nat} (E : EnvBo a0 w B ad n c) {R : Exit → Act → World → Prop} {a : Act} {x : World} {val : Nat → Value} (q : Q w x) (oth : ∀ j, j ∉ sBo → a.tmps[j]? = a0.tmps[j]?) (dep : ∀ ed ∈ oBo_1.after, Region.binds .any ed = true → ∀ s' t', (spBo B ad n c)[ed.on]? = some s' → sBo[ed.on]? = some t' → a.tmps[t']? = some (val ed.on) ∧ s'.p (val ed.on) val x) : Yld Try.prog R oBo_1 a x 23 (fun v x' => (sV (.int .i64 (n : Int))).p v val x' ∧ (1 ∈ ([2, 5, 7] : List Nat) → x.heap.size ≤ blkV v ∧ blkV v < x'.heap.size)) := by
  obtain ⟨t0, f0⟩ := dep ⟨0, .data⟩ (by simp [oBo_1]) rfl _ 22 rfl rfl
  have f0 : val 0 = (.slice ad n c) := f0
  rw [f0] at t0
  exact yld_run (x' := x) rfl (by simp [oBo_1, execOp, resolve, invoke, builtin, t0, go_sem]) (Q.refl x) ⟨rfl, fun h => absurd h (by decide)⟩
theorem yBo_2 {a0 : Act} {w : World} {B : Nat} {ad : Option Addr} {n c : Nat} (E : EnvBo a0 w B ad n c) {R : Exit → Act → World → Prop} {a : Act} {x : World} {val : Nat → Value} (q : Q w x) (oth : ∀ j, j ∉ sBo → a.tmps[j]? = a0.tmps[j]?) (dep : ∀ ed ∈ oBo_2.after, Region.binds .any ed = true → ∀ s' t', (spBo B ad n c)[ed.on]? = some s' → sBo[ed.on]? = some t' → a.tmps[t']? = some (val ed.on) ∧ s'.p (val ed.on) val x) : Yld Try.prog R oBo_2 a x 24 (fun v x' => (rowS B n).p v val x' ∧ (2 ∈ ([2, 5, 7] : List Nat) → x.heap.size ≤ blkV v ∧ blkV v < x'.heap.size)) := by
  obtain ⟨t1, f1⟩ := dep ⟨1, .data⟩ (by simp [oBo_2]) rfl _ 23 rfl rfl
  have f1 : val 1 = (.int .i64 (n : Int)) := f1
  rw [f1] at t1
  obtain ⟨M, hM, hF⟩ := make_i n E.hn
  have hrun : (execOp a.eval oBo_2).run Try.prog x = .ok (.value (.slice (some ⟨x.heap.size, 0, none⟩) n n)) (x.alloc (.cells M 3)) := by
    have := tmp_eval t1
    simp [oBo_2, execOp, this, hM]
  have := q.1.size
  have := E.hB
  exact yld_run rfl hrun ((Q.refl x).cells _ _) ⟨⟨_, rfl, by omega, by simp, hF x⟩, fun _ => ⟨Nat.le_refl _, by simp [blkV]⟩⟩
theorem yBo_3 {a0 : Act} {w : World} {B : Nat} {ad : Option Addr} {n c : Nat} (E : EnvBo a0 w B ad n c) {R : Exit → Act → World → Prop} {a : Act} {x : World} {val : Nat → Value} (q : Q w x) (oth : ∀ j, j ∉ sBo → a.tmps[j]? = a0.tmps[j]?) (dep : ∀ ed ∈ oBo_3.after, Region.binds .any ed = true → ∀ s' t', (spBo B ad n c)[ed.on]? = some s' → sBo[ed.on]? = some t' → a.tmps[t']? = some (val ed.on) ∧ s'.p (val ed.on) val x) : Yld Try.prog R oBo_3 a x 25 (fun v x' => (sV (.slice ad n c)).p v val x' ∧ (3 ∈ ([2, 5, 7] : List Nat) → x.heap.size ≤ blkV v ∧ blkV v < x'.heap.size)) := by
  exact yld_move ((oth 9 (by decide)).trans E.h9) ⟨rfl, fun h => absurd h (by decide)⟩
theorem yBo_4 {a0 : Act} {w : World} {B : Nat} {ad : Option Addr} {n c : Nat} (E : EnvBo a0 w B ad n c) {R : Exit → Act → World → Prop} {a : Act} {x : World} {val : Nat → Value} (q : Q w x) (oth : ∀ j, j ∉ sBo → a.tmps[j]? = a0.tmps[j]?) (dep : ∀ ed ∈ oBo_4.after, Region.binds .any ed = true → ∀ s' t', (spBo B ad n c)[ed.on]? = some s' → sBo[ed.on]? = some t' → a.tmps[t']? = some (val ed.on) ∧ s'.p (val ed.on) val x) : Yld Try.prog R oBo_4 a x 26 (fun v x' => (sV (.int .i64 (n : Int))).p v val x' ∧ (4 ∈ ([2, 5, 7] : List Nat) → x.heap.size ≤ blkV v ∧ blkV v < x'.heap.size)) := by
  obtain ⟨t3, f3⟩ := dep ⟨3, .data⟩ (by simp [oBo_4]) rfl _ 25 rfl rfl
  have f3 : val 3 = (.slice ad n c) := f3
  rw [f3] at t3
  exact yld_run (x' := x) rfl (by simp [oBo_4, execOp, resolve, invoke, builtin, t3, go_sem]) (Q.refl x) ⟨rfl, fun h => absurd h (by decide)⟩
theorem yBo_5 {a0 : Act} {w : World} {B : Nat} {ad : Option Addr} {n c : Nat} (E : EnvBo a0 w B ad n c) {R : Exit → Act → World → Prop} {a : Act} {x : World} {val : Nat → Value} (q : Q w x) (oth : ∀ j, j ∉ sBo → a.tmps[j]? = a0.tmps[j]?) (dep : ∀ ed ∈ oBo_5.after, Region.binds .any ed = true → ∀ s' t', (spBo B ad n c)[ed.on]? = some s' → sBo[ed.on]? = some t' → a.tmps[t']? = some (val ed.on) ∧ s'.p (val ed.on) val x) : Yld Try.prog R oBo_5 a x 27 (fun v x' => (rowS B n).p v val x' ∧ (5 ∈ ([2, 5, 7] : List Nat) → x.heap.size ≤ blkV v ∧ blkV v < x'.heap.size)) := by
  obtain ⟨t4, f4⟩ := dep ⟨4, .data⟩ (by simp [oBo_5]) rfl _ 26 rfl rfl
  have f4 : val 4 = (.int .i64 (n : Int)) := f4
  rw [f4] at t4
  obtain ⟨M, hM, hF⟩ := make_i n E.hn
  have hrun : (execOp a.eval oBo_5).run Try.prog x = .ok (.value (.slice (some ⟨x.heap.size, 0, none⟩) n n)) (x.alloc (.cells M 3)) := by
    have := tmp_eval t4
    simp [oBo_5, execOp, this, hM]
  have := q.1.size
  have := E.hB
  exact yld_run rfl hrun ((Q.refl x).cells _ _) ⟨⟨_, rfl, by omega, by simp, hF x⟩, fun _ => ⟨Nat.le_refl _, by simp [blkV]⟩⟩
theorem yBo_6 {a0 : Act} {w : World} {B : Nat} {ad : Option Addr} {n c : Nat} (E : EnvBo a0 w B ad n c) {R : Exit → Act → World → Prop} {a : Act} {x : World} {val : Nat → Value} (q : Q w x) (oth : ∀ j, j ∉ sBo → a.tmps[j]? = a0.tmps[j]?) (dep : ∀ ed ∈ oBo_6.after, Region.binds .any ed = true → ∀ s' t', (spBo B ad n c)[ed.on]? = some s' → sBo[ed.on]? = some t' → a.tmps[t']? = some (val ed.on) ∧ s'.p (val ed.on) val x) : Yld Try.prog R oBo_6 a x 28 (fun v x' => (sB2 2 5).p v val x' ∧ (6 ∈ ([2, 5, 7] : List Nat) → x.heap.size ≤ blkV v ∧ blkV v < x'.heap.size)) := by
  obtain ⟨t2, f2⟩ := dep ⟨2, .data⟩ (by simp [oBo_6]) rfl _ 24 rfl rfl
  obtain ⟨t5, f5⟩ := dep ⟨5, .data⟩ (by simp [oBo_6]) rfl _ 27 rfl rfl
  obtain ⟨g, e2, _⟩ := f2
  obtain ⟨gr, e5, _⟩ := f5
  have t2' := t2
  have t5' := t5
  rw [e2] at t2'
  rw [e5] at t5'
  exact yld_run (x' := x) (v := .agg #[val 2, val 5]) rfl (by rw [e2, e5]; simp [oBo_6, execOp, t2', t5', go_sem]) (Q.refl x) ⟨rfl, fun h => absurd h (by decide)⟩
theorem yBo_7 {a0 : Act} {w : World} {B : Nat} {ad : Option Addr} {n c : Nat} (E : EnvBo a0 w B ad n c) {R : Exit → Act → World → Prop} {a : Act} {x : World} {val : Nat → Value} (q : Q w x) (oth : ∀ j, j ∉ sBo → a.tmps[j]? = a0.tmps[j]?) (dep : ∀ ed ∈ oBo_7.after, Region.binds .any ed = true → ∀ s' t', (spBo B ad n c)[ed.on]? = some s' → sBo[ed.on]? = some t' → a.tmps[t']? = some (val ed.on) ∧ s'.p (val ed.on) val x) : Yld Try.prog R oBo_7 a x 11 (fun v x' => (boxS B).p v val x' ∧ (7 ∈ ([2, 5, 7] : List Nat) → x.heap.size ≤ blkV v ∧ blkV v < x'.heap.size)) := by
  have := q.1.size
  have := E.hB
  exact yld_run (x' := x.alloc (.cells #[.slice none 0 0, .slice none 0 0] 64)) rfl (by simp [oBo_7, execOp, go_sem]) ((Q.refl x).cells _ _) ⟨⟨x.heap.size, rfl, by omega, by simp, by simp [go_sem], by simp [go_sem], fun j => by simp [go_sem]⟩, fun _ => ⟨Nat.le_refl _, by simp [blkV]⟩⟩
theorem hopBo {a0 : Act} {w : World} {B : Nat} {ad : Option Addr} {n c : Nat} (E : EnvBo a0 w B ad n c) {R : Exit → Act → World → Prop} : ∀ (i t : Nat) (o : Oper) (sp : Sp2) (a : Act) (x : World) (val : Nat → Value), sBo[i]? = some t → opsBo[i]? = some o → (spBo B ad n c)[i]? = some sp → Q w x → (∀ j, j ∉ sBo → a.tmps[j]? = a0.tmps[j]?) → (∀ ed ∈ o.after, Region.binds .any ed = true → ∀ s' t', (spBo B ad n c)[ed.on]? = some s' → sBo[ed.on]? = some t' → a.tmps[t']? = some (val ed.on) ∧ s'.p (val ed.on) val x) → Yld Try.prog R o a x t (fun v x' => sp.p v val x' ∧ (i ∈ ([2, 5, 7] : List Nat) → x.heap.size ≤ blkV v ∧ blkV v < x'.heap.size))
  | 0, t, o, sp, a, x, val, ht, ho, hs, q, oth, dep => by
    have e1 : oBo_0 = o := Option.some.inj ho
    have e2 : 22 = t := Option.some.inj ht
    have e3 := Option.some.inj hs
    subst e1 e2 e3
    exact yBo_0 E q oth dep
  | 1, t, o, sp, a, x, val, ht, ho, hs, q, oth, dep => by
    have e1 : oBo_1 = o := Option.some.inj ho
    have e2 : 23 = t := Option.some.inj ht
    have e3 := Option.some.inj hs
    subst e1 e2 e3
    exact yBo_1 E q oth dep
  | 2, t, o, sp, a, x, val, ht, ho, hs, q, oth, dep => by
    have e1 : oBo_2 = o := Option.some.inj ho
    have e2 : 24 = t := Option.some.inj ht
    have e3 := Option.some.inj hs
    subst e1 e2 e3
    exact yBo_2 E q oth dep
  | 3, t, o, sp, a, x, val, ht, ho, hs, q, oth, dep => by
    have e1 : oBo_3 = o := Option.some.inj ho
    have e2 : 25 = t := Option.some.inj ht
    have e3 := Option.some.inj hs
    subst e1 e2 e3
    exact yBo_3 E q oth dep
  | 4, t, o, sp, a, x, val, ht, ho, hs, q, oth, dep => by
    have e1 : oBo_4 = o := Option.some.inj ho
    have e2 : 26 = t := Option.some.inj ht
    have e3 := Option.some.inj hs
    subst e1 e2 e3
    exact yBo_4 E q oth dep
  | 5, t, o, sp, a, x, val, ht, ho, hs, q, oth, dep => by
    have e1 : oBo_5 = o := Option.some.inj ho
    have e2 : 27 = t := Option.some.inj ht
    have e3 := Option.some.inj hs
    subst e1 e2 e3
    exact yBo_5 E q oth dep
  | 6, t, o, sp, a, x, val, ht, ho, hs, q, oth, dep => by
    have e1 : oBo_6 = o := Option.some.inj ho
    have e2 : 28 = t := Option.some.inj ht
    have e3 := Option.some.inj hs
    subst e1 e2 e3
    exact yBo_6 E q oth dep
  | 7, t, o, sp, a, x, val, ht, ho, hs, q, oth, dep => by
    have e1 : oBo_7 = o := Option.some.inj ho
    have e2 : 11 = t := Option.some.inj ht
    have e3 := Option.some.inj hs
    subst e1 e2 e3
    exact yBo_7 E q oth dep
  | i + 8, t, o, sp, a, x, val, ht, ho, hs, q, oth, dep => by cases ht
set_option maxHeartbeats 1000000 in
theorem regionBo {id : Nat} {l : List Oper} {R : Exit → Act → World → Prop} {a0 : Act} {w : World} {B : Nat} {ad : Option Addr} {n c : Nat} (hl : l = opsBo) (hsz : a0.tmps.size = 50) (E : EnvBo a0 w B ad n c)
    (hR : ∀ x g gr gb, Bld2 B n g gr gb w x → R .normal (putAll a0 [(22, .slice ad n c), (23, .int .i64 (n : Int)), (24, .slice (some ⟨g, 0, none⟩) n n), (25, .slice ad n c), (26, .int .i64 (n : Int)), (27, .slice (some ⟨gr, 0, none⟩) n n), (28, .agg #[.slice (some ⟨g, 0, none⟩) n n, .slice (some ⟨gr, 0, none⟩) n n]), (11, .pointer (some ⟨gb, 0, none⟩))]) x) :
    (Code.region id l.toArray true).wp Try.prog R a0 w := by
  subst hl
  refine wp_region_newP 8 sBo (spBo B ad n c) [[], [], [], [], [], [], [2, 5], []] [2, 5, 7] (by kernel_rfl) (by decide +kernel) (by decide +kernel) rfl (by decide) (fun t ht => ?_) (hopBo E) (by decide) (fun a x val q size defers other facts apart => ?_)
  · rw [hsz]
    revert t
    decide
  · obtain ⟨t0, f0⟩ := facts 0 22 _ rfl rfl
    have f0 : val 0 = (.slice ad n c) := f0
    rw [f0] at t0
    obtain ⟨t1, f1⟩ := facts 1 23 _ rfl rfl
    have f1 : val 1 = (.int .i64 (n : Int)) := f1
    rw [f1] at t1
    obtain ⟨t2, f2⟩ := facts 2 24 _ rfl rfl
    obtain ⟨t3, f3⟩ := facts 3 25 _ rfl rfl
    have f3 : val 3 = (.slice ad n c) := f3
    rw [f3] at t3
    obtain ⟨t4, f4⟩ := facts 4 26 _ rfl rfl
    have f4 : val 4 = (.int .i64 (n : Int)) := f4
    rw [f4] at t4
    obtain ⟨t5, f5⟩ := facts 5 27 _ rfl rfl
    obtain ⟨t6, f6⟩ := facts 6 28 _ rfl rfl
    obtain ⟨t7, f7⟩ := facts 7 11 _ rfl rfl
    obtain ⟨g, e2, a1, a2, a3⟩ := f2
    obtain ⟨gr, e5, b1, b2, b3⟩ := f5
    obtain ⟨gb, e7, c1, c2, c3, c4, c5⟩ := f7
    have p25 := apart 2 5 (by simp) (by simp) (by decide)
    have p27 := apart 2 7 (by simp) (by simp) (by decide)
    have p57 := apart 5 7 (by simp) (by simp) (by decide)
    rw [e2, e5] at p25
    rw [e2, e7] at p27
    rw [e5, e7] at p57
    have f6 : val 6 = .agg #[val 2, val 5] := f6
    rw [f6, e2, e5] at t6
    rw [e2] at t2
    rw [e5] at t5
    rw [e7] at t7
    have hA := act_puts (a := a) (a0 := a0) [(22, .slice ad n c), (23, .int .i64 (n : Int)), (24, .slice (some ⟨g, 0, none⟩) n n), (25, .slice ad n c), (26, .int .i64 (n : Int)), (27, .slice (some ⟨gr, 0, none⟩) n n), (28, .agg #[.slice (some ⟨g, 0, none⟩) n n, .slice (some ⟨gr, 0, none⟩) n n]), (11, .pointer (some ⟨gb, 0, none⟩))] (show ([22, 23, 24, 25, 26, 27, 28, 11] : List Nat).Nodup by decide) size defers (fun j hj => other j (by simpa [sBo] using hj)) (fun r hr => ?_)
    · refine ⟨?_⟩
      refine post_skip (x' := (x.setCell ⟨gb, 0, none⟩ (.slice (some ⟨g, 0, none⟩) n n)).setCell ⟨gb, 1, none⟩ (.slice (some ⟨gr, 0, none⟩) n n)) rfl (by simp [oBo_8, execOp, t6, t7, go_sem, c3, c4, c5]) ?_
      show R .normal a _
      rw [hA]
      have hl : w.heap.size ≤ gb := by rw [← E.hB]; exact c1
      have k0 : (x.setCell ⟨gb, 0, none⟩ (.slice (some ⟨g, 0, none⟩) n n)).cell? ⟨gb, 1, none⟩ = some (.slice none 0 0) := (World.cell?_setCell_other _ _ _ _ (fun e => by injection e with _ e; cases e)).trans c4
      exact hR _ g gr gb ⟨(q.set hl _).set hl _, a1, b1, c1, p25, p27, p57, (a3.other (p := ⟨gb, 0, none⟩) (fun e => p27 e.symm) _).other (p := ⟨gb, 1, none⟩) (fun e => p27 e.symm) _, (b3.other (p := ⟨gb, 0, none⟩) (fun e => p57 e.symm) _).other (p := ⟨gb, 1, none⟩) (fun e => p57 e.symm) _, (World.cell?_setCell_other _ _ _ _ (fun e => by injection e with _ e; cases e)).trans (World.cell?_setCell_same _ _ _ c3), World.cell?_setCell_same _ _ _ k0⟩
    · simp only [List.mem_cons, List.not_mem_nil, or_false] at hr
      rcases hr with rfl | rfl | rfl | rfl | rfl | rfl | rfl | rfl
      · exact t0
      · exact t1
      · exact t2
      · exact t3
      · exact t4
      · exact t5
      · exact t6
      · exact t7
set_option maxRecDepth 100000 in
theorem normBo {t0 t1 t2 t3 t4 t5 t6 t7 t8 t9 t10 t11 t12 t13 t14 t15 t16 t17 t18 t19 t20 t21 t22 t23 t24 t25 t26 t27 t28 t29 t30 t31 t32 t33 t34 t35 t36 t37 t38 t39 t40 t41 t42 t43 t44 t45 t46 t47 t48 t49 v22 v23 v24 v25 v26 v27 v28 v11 : Value} {d : List Deferred} : putAll ⟨#[t0, t1, t2, t3, t4, t5, t6, t7, t8, t9, t10, t11, t12, t13, t14, t15, t16, t17, t18, t19, t20, t21, t22, t23, t24, t25, t26, t27, t28, t29, t30, t31, t32, t33, t34, t35, t36, t37, t38, t39, t40, t41, t42, t43, t44, t45, t46, t47, t48, t49], d⟩ [(22, v22), (23, v23), (24, v24), (25, v25), (26, v26), (27, v27), (28, v28), (11, v11)] = ⟨#[t0, t1, t2, t3, t4, t5, t6, t7, t8, t9, t10, v11, t12, t13, t14, t15, t16, t17, t18, t19, t20, t21, v22, v23, v24, v25, v26, v27, v28, t29, t30, t31, t32, t33, t34, t35, t36, t37, t38, t39, t40, t41, t42, t43, t44, t45, t46, t47, t48, t49], d⟩ := by
  kernel_rfl
end Go.Proofs.Ytcolhgngiflkhaa
