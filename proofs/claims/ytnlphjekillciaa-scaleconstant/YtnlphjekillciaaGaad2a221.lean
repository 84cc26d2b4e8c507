/- The document's Share: two rows that it makes, in whatever order. -/
import Derived.Test.YtnlphjekillciaaGb051e343
import Derived.Test.YtnlphjekillciaaGee526117
import Derived.Test.YtnlphjekillciaaGb930bb3d
import Derived.Test.YtnlphjekillciaaGd03c0861
namespace Go.Proofs.Ytnlphjekillciaa
open Go.RowKit
set_option linter.unusedVariables false
set_option linter.unusedSimpArgs false

/-- A row of noughts that is made. -/
def rowS (B n : Nat) : Sp2 := sP (fun v x => ∃ g, v = .slice (some ⟨g, 0, none⟩) n n ∧ B ≤ g ∧ g < x.heap.size ∧ IRow x g (List.replicate n 0)) (fun v x x' ⟨g, h1, h2, h3, h4⟩ q => ⟨g, h1, h2, by have := q.1.size; omega, h4.next q⟩)
def oRs_0 : Oper := { dst := some 46, op := .move (.tmp 0), type := 79, pos := "halideref9.go:40", after := #[], guard := none }
def oRs_1 : Oper := { dst := some 47, op := .call { callee := .builtin .len, args := #[.tmp 46], argTypes := #[79] }, type := 3, pos := "halideref9.go:40", after := #[⟨0, .data⟩], guard := none }
def oRs_2 : Oper := { dst := some 48, op := .makeSlice 79 (.tmp 47) (.tmp 47), type := 79, pos := "halideref9.go:40", after := #[⟨1, .data⟩, ⟨1, .data⟩], guard := none }
def oRs_3 : Oper := { dst := some 49, op := .move (.tmp 0), type := 79, pos := "halideref9.go:40", after := #[], guard := none }
def oRs_4 : Oper := { dst := some 50, op := .call { callee := .builtin .len, args := #[.tmp 49], argTypes := #[79] }, type := 3, pos := "halideref9.go:40", after := #[⟨3, .data⟩], guard := none }
def oRs_5 : Oper := { dst := some 51, op := .makeSlice 79 (.tmp 50) (.tmp 50), type := 79, pos := "halideref9.go:40", after := #[⟨4, .data⟩, ⟨4, .data⟩], guard := none }
def oRs_6 : Oper := { dst := some 6, op := .assign (.tmp 48), type := 79, pos := "halideref9.go:40", after := #[⟨2, .data⟩, ⟨0, .phase⟩, ⟨1, .phase⟩, ⟨2, .phase⟩, ⟨3, .textOnly .lateStores⟩, ⟨4, .textOnly .lateStoresUnsure⟩, ⟨5, .textOnly .lateStoresUnsure⟩], guard := none }
def oRs_7 : Oper := { dst := some 7, op := .assign (.tmp 51), type := 79, pos := "halideref9.go:40", after := #[⟨5, .data⟩, ⟨6, .chain⟩, ⟨0, .phase⟩, ⟨1, .phase⟩, ⟨2, .phase⟩, ⟨3, .phase⟩, ⟨4, .phase⟩, ⟨5, .phase⟩, ⟨6, .phase⟩], guard := none }
def opsRs : List Oper := [oRs_0, oRs_1, oRs_2, oRs_3, oRs_4, oRs_5, oRs_6, oRs_7]
def sRs : List Nat := [46, 47, 48, 49, 50, 51, 6, 7]
def spRs (B : Nat) (ad : Option Addr) (n c : Nat) : List Sp2 := [sV (.slice ad n c), sV (.int .i64 (n : Int)), rowS B n, sV (.slice ad n c), sV (.int .i64 (n : Int)), rowS B n, sE 2, sE 5]
structure EnvRs (a0 : Act) (w : World) (B : Nat) (ad : Option Addr) (n c : Nat) : Prop where
  h0 : a0.tmps[0]? = some (.slice ad n c)
  hn : n ≤ 1048576
  hB : B ≤ w.heap.size
theorem yRs_0 {a0 : Act} {w : World} {B : Nat} {ad : Option Addr} {n c : Nat} (E : EnvRs a0 w B ad n c) {R : Exit → Act → World → Prop} {a : Act} {x : World} {val : Nat → Value} (q : Q w x) (oth : ∀ j, j ∉ sRs → a.tmps[j]? = a0.tmps[j]?) (dep : ∀ ed ∈ oRs_0.after, Region.binds .any ed = true → ∀ s' t', (spRs B ad n c)[ed.on]? = some s' → sRs[ed.on]? = some t' → a.tmps[t']? = some (val ed.on) ∧ s'.p (val ed.on) val x) : Yld Try.prog R oRs_0 a x 46 (fun v x' => (sV (.slice ad n c)).p v val x' ∧ (0 ∈ ([2, 5] : List Nat) → x.heap.size ≤ blkV v ∧ blkV v < x'.heap.size)) := by
  exact yld_move ((oth 0 (by decide)).trans E.h0) ⟨rfl, fun h => absurd h (by decide)⟩
theorem yRs_1 {a0 : Act} {w : World} {B : Nat} {ad : Option Addr} {n c : Nat} (E : EnvRs a0 w B ad n c) {R : Exit → Act → World → Prop} {a : Act} {x : World} {val : Nat → Value} (q : Q w x) (oth : ∀ j, j ∉ sRs → a.tmps[j]? = a0.tmps[j]?) (dep : ∀ ed ∈ oRs_1.after, Region.binds .any ed = true → ∀ s' t', (spRs B ad n c)[ed.on]? = some s' → sRs[ed.on]? = some t' → a.tmps[t']? = some (val ed.on) ∧ s'.p (val ed.on) val x) : Yld Try.prog R oRs_1 a x 47 (fun v x' => (sV (.int .i64 (n : Int))).p v val x' ∧ (1 ∈ ([2, 5] : List Nat) → x.heap.size ≤ blkV v ∧ blkV v < x'.heap.size)) := by
  obtain ⟨t0, f0⟩ := dep ⟨0, .data⟩ (by simp [oRs_1]) rfl _ 46 rfl rfl
  have f0 : val 0 = (.slice ad n c) := f0
  rw [f0] at t0
  exact yld_run (x' := x) rfl (by simp [oRs_1, execOp, resolve, invoke, builtin, t0, go_sem]) (Q.refl x) ⟨rfl, fun h => absurd h (by decide)⟩
theorem yRs_2 {a0 : Act} {w : World} {B : Nat} {ad : Option Addr} {n c : Nat} (E : EnvRs a0 w B ad n c) {R : Exit → Act → World → Prop} {a : Act} {x : World} {val : Nat → Value} (q : Q w x) (oth : ∀ j, j ∉ sRs → a.tmps[j]? = a0.tmps[j]?) (dep : ∀ ed ∈ oRs_2.after, Region.binds .any ed = true → ∀ s' t', (spRs B ad n c)[ed.on]? = some s' → sRs[ed.on]? = some t' → a.tmps[t']? = some (val ed.on) ∧ s'.p (val ed.on) val x) : Yld Try.prog R oRs_2 a x 48 (fun v x' => (rowS B n).p v val x' ∧ (2 ∈ ([2, 5] : List Nat) → x.heap.size ≤ blkV v ∧ blkV v < x'.heap.size)) := by
  obtain ⟨t1, f1⟩ := dep ⟨1, .data⟩ (by simp [oRs_2]) rfl _ 47 rfl rfl
  have f1 : val 1 = (.int .i64 (n : Int)) := f1
  rw [f1] at t1
  obtain ⟨M, hM, hF⟩ := make_i n E.hn
  have hrun : (execOp a.eval oRs_2).run Try.prog x = .ok (.value (.slice (some ⟨x.heap.size, 0, none⟩) n n)) (x.alloc (.cells M 3)) := by
    have := tmp_eval t1
    simp [oRs_2, execOp, this, hM]
  have := q.1.size
  have := E.hB
  exact yld_run rfl hrun ((Q.refl x).cells _ _) ⟨⟨_, rfl, by omega, by simp, hF x⟩, fun _ => ⟨Nat.le_refl _, by simp [blkV]⟩⟩
theorem yRs_3 {a0 : Act} {w : World} {B : Nat} {ad : Option Addr} {n c : Nat} (E : EnvRs a0 w B ad n c) {R : Exit → Act → World → Prop} {a : Act} {x : World} {val : Nat → Value} (q : Q w x) (oth : ∀ j, j ∉ sRs → a.tmps[j]? = a0.tmps[j]?) (dep : ∀ ed ∈ oRs_3.after, Region.binds .any ed = true → ∀ s' t', (spRs B ad n c)[ed.on]? = some s' → sRs[ed.on]? = some t' → a.tmps[t']? = some (val ed.on) ∧ s'.p (val ed.on) val x) : Yld Try.prog R oRs_3 a x 49 (fun v x' => (sV (.slice ad n c)).p v val x' ∧ (3 ∈ ([2, 5] : List Nat) → x.heap.size ≤ blkV v ∧ blkV v < x'.heap.size)) := by
  exact yld_move ((oth 0 (by decide)).trans E.h0) ⟨rfl, fun h => absurd h (by decide)⟩
theorem yRs_4 {a0 : Act} {w : World} {B : Nat} {ad : Option Addr} {n c : Nat} (E : EnvRs a0 w B ad n c) {R : Exit → Act → World → Prop} {a : Act} {x : World} {val : Nat → Value} (q : Q w x) (oth : ∀ j, j ∉ sRs → a.tmps[j]? = a0.tmps[j]?) (dep : ∀ ed ∈ oRs_4.after, Region.binds .any ed = true → ∀ s' t', (spRs B ad n c)[ed.on]? = some s' → sRs[ed.on]? = some t' → a.tmps[t']? = some (val ed.on) ∧ s'.p (val ed.on) val x) : Yld Try.prog R oRs_4 a x 50 (fun v x' => (sV (.int .i64 (n : Int))).p v val x' ∧ (4 ∈ ([2, 5] : List Nat) → x.heap.size ≤ blkV v ∧ blkV v < x'.heap.size)) := by
  obtain ⟨t3, f3⟩ := dep ⟨3, .data⟩ (by simp [oRs_4]) rfl _ 49 rfl rfl
  have f3 : val 3 = (.slice ad n c) := f3
  rw [f3] at t3
  exact yld_run (x' := x) rfl (by simp [oRs_4, execOp, resolve, invoke, builtin, t3, go_sem]) (Q.refl x) ⟨rfl, fun h => absurd h (by decide)⟩
theorem yRs_5 {a0 : Act} {w : World} {B : Nat} {ad : Option Addr} {n c : Nat} (E : EnvRs a0 w B ad n c) {R : Exit → Act → World → Prop} {a : Act} {x : World} {val : Nat → Value} (q : Q w x) (oth : ∀ j, j ∉ sRs → a.tmps[j]? = a0.tmps[j]?) (dep : ∀ ed ∈ oRs_5.after, Region.binds .any ed = true → ∀ s' t', (spRs B ad n c)[ed.on]? = some s' → sRs[ed.on]? = some t' → a.tmps[t']? = some (val ed.on) ∧ s'.p (val ed.on) val x) : Yld Try.prog R oRs_5 a x 51 (fun v x' => (rowS B n).p v val x' ∧ (5 ∈ ([2, 5] : List Nat) → x.heap.size ≤ blkV v ∧ blkV v < x'.heap.size)) := by
  obtain ⟨t4, f4⟩ := dep ⟨4, .data⟩ (by simp [oRs_5]) rfl _ 50 rfl rfl
  have f4 : val 4 = (.int .i64 (n : Int)) := f4
  rw [f4] at t4
  obtain ⟨M, hM, hF⟩ := make_i n E.hn
  have hrun : (execOp a.eval oRs_5).run Try.prog x = .ok (.value (.slice (some ⟨x.heap.size, 0, none⟩) n n)) (x.alloc (.cells M 3)) := by
    have := tmp_eval t4
    simp [oRs_5, execOp, this, hM]
  have := q.1.size
  have := E.hB
  exact yld_run rfl hrun ((Q.refl x).cells _ _) ⟨⟨_, rfl, by omega, by simp, hF x⟩, fun _ => ⟨Nat.le_refl _, by simp [blkV]⟩⟩
theorem yRs_6 {a0 : Act} {w : World} {B : Nat} {ad : Option Addr} {n c : Nat} (E : EnvRs a0 w B ad n c) {R : Exit → Act → World → Prop} {a : Act} {x : World} {val : Nat → Value} (q : Q w x) (oth : ∀ j, j ∉ sRs → a.tmps[j]? = a0.tmps[j]?) (dep : ∀ ed ∈ oRs_6.after, Region.binds .any ed = true → ∀ s' t', (spRs B ad n c)[ed.on]? = some s' → sRs[ed.on]? = some t' → a.tmps[t']? = some (val ed.on) ∧ s'.p (val ed.on) val x) : Yld Try.prog R oRs_6 a x 6 (fun v x' => (sE 2).p v val x' ∧ (6 ∈ ([2, 5] : List Nat) → x.heap.size ≤ blkV v ∧ blkV v < x'.heap.size)) := by
  obtain ⟨t2, f2⟩ := dep ⟨2, .data⟩ (by simp [oRs_6]) rfl _ 48 rfl rfl
  exact yld_run (x' := x) rfl (by rw [← tmp_eval t2]; rfl) (Q.refl x) ⟨rfl, fun h => absurd h (by decide)⟩
theorem yRs_7 {a0 : Act} {w : World} {B : Nat} {ad : Option Addr} {n c : Nat} (E : EnvRs a0 w B ad n c) {R : Exit → Act → World → Prop} {a : Act} {x : World} {val : Nat → Value} (q : Q w x) (oth : ∀ j, j ∉ sRs → a.tmps[j]? = a0.tmps[j]?) (dep : ∀ ed ∈ oRs_7.after, Region.binds .any ed = true → ∀ s' t', (spRs B ad n c)[ed.on]? = some s' → sRs[ed.on]? = some t' → a.tmps[t']? = some (val ed.on) ∧ s'.p (val ed.on) val x) : Yld Try.prog R oRs_7 a x 7 (fun v x' => (sE 5).p v val x' ∧ (7 ∈ ([2, 5] : List Nat) → x.heap.size ≤ blkV v ∧ blkV v < x'.heap.size)) := by
  obtain ⟨t5, f5⟩ := dep ⟨5, .data⟩ (by simp [oRs_7]) rfl _ 51 rfl rfl
  exact yld_run (x' := x) rfl (by rw [← tmp_eval t5]; rfl) (Q.refl x) ⟨rfl, fun h => absurd h (by decide)⟩
theorem hopRs {a0 : Act} {w : World} {B : Nat} {ad : Option Addr} {n c : Nat} (E : EnvRs a0 w B ad n c) {R : Exit → Act → World → Prop} : ∀ (i t : Nat) (o : Oper) (sp : Sp2) (a : Act) (x : World) (val : Nat → Value), sRs[i]? = some t → opsRs[i]? = some o → (spRs B ad n c)[i]? = some sp → Q w x → (∀ j, j ∉ sRs → a.tmps[j]? = a0.tmps[j]?) → (∀ ed ∈ o.after, Region.binds .any ed = true → ∀ s' t', (spRs B ad n c)[ed.on]? = some s' → sRs[ed.on]? = some t' → a.tmps[t']? = some (val ed.on) ∧ s'.p (val ed.on) val x) → Yld Try.prog R o a x t (fun v x' => sp.p v val x' ∧ (i ∈ ([2, 5] : List Nat) → x.heap.size ≤ blkV v ∧ blkV v < x'.heap.size))
  | 0, t, o, sp, a, x, val, ht, ho, hs, q, oth, dep => by
    have e1 : oRs_0 = o := Option.some.inj ho
    have e2 : 46 = t := Option.some.inj ht
    have e3 := Option.some.inj hs
    subst e1 e2 e3
    exact yRs_0 E q oth dep
  | 1, t, o, sp, a, x, val, ht, ho, hs, q, oth, dep => by
    have e1 : oRs_1 = o := Option.some.inj ho
    have e2 : 47 = t := Option.some.inj ht
    have e3 := Option.some.inj hs
    subst e1 e2 e3
    exact yRs_1 E q oth dep
  | 2, t, o, sp, a, x, val, ht, ho, hs, q, oth, dep => by
    have e1 : oRs_2 = o := Option.some.inj ho
    have e2 : 48 = t := Option.some.inj ht
    have e3 := Option.some.inj hs
    subst e1 e2 e3
    exact yRs_2 E q oth dep
  | 3, t, o, sp, a, x, val, ht, ho, hs, q, oth, dep => by
    have e1 : oRs_3 = o := Option.some.inj ho
    have e2 : 49 = t := Option.some.inj ht
    have e3 := Option.some.inj hs
    subst e1 e2 e3
    exact yRs_3 E q oth dep
  | 4, t, o, sp, a, x, val, ht, ho, hs, q, oth, dep => by
    have e1 : oRs_4 = o := Option.some.inj ho
    have e2 : 50 = t := Option.some.inj ht
    have e3 := Option.some.inj hs
    subst e1 e2 e3
    exact yRs_4 E q oth dep
  | 5, t, o, sp, a, x, val, ht, ho, hs, q, oth, dep => by
    have e1 : oRs_5 = o := Option.some.inj ho
    have e2 : 51 = t := Option.some.inj ht
    have e3 := Option.some.inj hs
    subst e1 e2 e3
    exact yRs_5 E q oth dep
  | 6, t, o, sp, a, x, val, ht, ho, hs, q, oth, dep => by
    have e1 : oRs_6 = o := Option.some.inj ho
    have e2 : 6 = t := Option.some.inj ht
    have e3 := Option.some.inj hs
    subst e1 e2 e3
    exact yRs_6 E q oth dep
  | 7, t, o, sp, a, x, val, ht, ho, hs, q, oth, dep => by
    have e1 : oRs_7 = o := Option.some.inj ho
    have e2 : 7 = t := Option.some.inj ht
    have e3 := Option.some.inj hs
    subst e1 e2 e3
    exact yRs_7 E q oth dep
  | i + 8, t, o, sp, a, x, val, ht, ho, hs, q, oth, dep => by cases ho
set_option maxHeartbeats 1000000 in
theorem regionRs {id : Nat} {l : List Oper} {R : Exit → Act → World → Prop} {a0 : Act} {w : World} {B : Nat} {ad : Option Addr} {n c : Nat} (hl : l = opsRs) (hsz : a0.tmps.size = 119) (E : EnvRs a0 w B ad n c)
    (hR : ∀ x g gr, Q w x → B ≤ g → B ≤ gr → g ≠ gr → g < x.heap.size → gr < x.heap.size → IRow x g (List.replicate n 0) → IRow x gr (List.replicate n 0) → R .normal (putAll a0 [(46, .slice ad n c), (47, .int .i64 (n : Int)), (48, .slice (some ⟨g, 0, none⟩) n n), (49, .slice ad n c), (50, .int .i64 (n : Int)), (51, .slice (some ⟨gr, 0, none⟩) n n), (6, .slice (some ⟨g, 0, none⟩) n n), (7, .slice (some ⟨gr, 0, none⟩) n n)]) x) :
    (Code.region id l.toArray true).wp Try.prog R a0 w := by
  subst hl
  refine wp_region_new sRs (spRs B ad n c) [[], [], [], [], [], [], [2], [5]] [2, 5] (by kernel_rfl) (by decide +kernel) (by decide +kernel) rfl (fun t ht => ?_) (hopRs E) (fun a x val q size defers other facts apart => ?_)
  · rw [hsz]
    revert t
    decide
  · obtain ⟨t0, f0⟩ := facts 0 46 _ rfl rfl
    have f0 : val 0 = (.slice ad n c) := f0
    rw [f0] at t0
    obtain ⟨t1, f1⟩ := facts 1 47 _ rfl rfl
    have f1 : val 1 = (.int .i64 (n : Int)) := f1
    rw [f1] at t1
    obtain ⟨t2, f2⟩ := facts 2 48 _ rfl rfl
    obtain ⟨t3, f3⟩ := facts 3 49 _ rfl rfl
    have f3 : val 3 = (.slice ad n c) := f3
    rw [f3] at t3
    obtain ⟨t4, f4⟩ := facts 4 50 _ rfl rfl
    have f4 : val 4 = (.int .i64 (n : Int)) := f4
    rw [f4] at t4
    obtain ⟨t5, f5⟩ := facts 5 51 _ rfl rfl
    obtain ⟨t6, f6⟩ := facts 6 6 _ rfl rfl
    have f6 : val 6 = val 2 := f6
    obtain ⟨t7, f7⟩ := facts 7 7 _ rfl rfl
    have f7 : val 7 = val 5 := f7
    obtain ⟨g, e2, a1, a2, a3⟩ := f2
    obtain ⟨gr, e5, b1, b2, b3⟩ := f5
    have ap := apart 2 5 (by simp) (by simp) (by decide) (by decide) (by decide)
    rw [e2, e5] at ap
    rw [f6, e2] at t6
    rw [f7, e5] at t7
    rw [e2] at t2
    rw [e5] at t5
    have hA := act_puts (a := a) (a0 := a0) [(46, .slice ad n c), (47, .int .i64 (n : Int)), (48, .slice (some ⟨g, 0, none⟩) n n), (49, .slice ad n c), (50, .int .i64 (n : Int)), (51, .slice (some ⟨gr, 0, none⟩) n n), (6, .slice (some ⟨g, 0, none⟩) n n), (7, .slice (some ⟨gr, 0, none⟩) n n)] (show ([46, 47, 48, 49, 50, 51, 6, 7] : List Nat).Nodup by decide) size defers (fun j hj => other j (by simpa [sRs] using hj)) (fun r hr => ?_)
    · refine ⟨?_⟩
      rw [hA]
      exact hR x g gr q a1 b1 ap a2 b2 a3 b3
    · simp only [List.mem_cons, List.not_mem_nil, or_false] at hr
      rcases hr with rfl | rfl | rfl | rfl | rfl | rfl | rfl | rfl
      · exact t0
      · exact t1
      · exact t2
      · exact t3
      · exact t4
      · exact t5
      · exact t6
      · exact t7
set_option maxRecDepth 100000 in
theorem normRs {t0 t1 t2 t3 t4 t5 t6 t7 t8 t9 t10 t11 t12 t13 t14 t15 t16 t17 t18 t19 t20 t21 t22 t23 t24 t25 t26 t27 t28 t29 t30 t31 t32 t33 t34 t35 t36 t37 t38 t39 t40 t41 t42 t43 t44 t45 t46 t47 t48 t49 t50 t51 t52 t53 t54 t55 t56 t57 t58 t59 t60 t61 t62 t63 t64 t65 t66 t67 t68 t69 t70 t71 t72 t73 t74 t75 t76 t77 t78 t79 t80 t81 t82 t83 t84 t85 t86 t87 t88 t89 t90 t91 t92 t93 t94 t95 t96 t97 t98 t99 t100 t101 t102 t103 t104 t105 t106 t107 t108 t109 t110 t111 t112 t113 t114 t115 t116 t117 t118 v46 v47 v48 v49 v50 v51 v6 v7 : Value} {d : List Deferred} : putAll ⟨#[t0, t1, t2, t3, t4, t5, t6, t7, t8, t9, t10, t11, t12, t13, t14, t15, t16, t17, t18, t19, t20, t21, t22, t23, t24, t25, t26, t27, t28, t29, t30, t31, t32, t33, t34, t35, t36, t37, t38, t39, t40, t41, t42, t43, t44, t45, t46, t47, t48, t49, t50, t51, t52, t53, t54, t55, t56, t57, t58, t59, t60, t61, t62, t63, t64, t65, t66, t67, t68, t69, t70, t71, t72, t73, t74, t75, t76, t77, t78, t79, t80, t81, t82, t83, t84, t85, t86, t87, t88, t89, t90, t91, t92, t93, t94, t95, t96, t97, t98, t99, t100, t101, t102, t103, t104, t105, t106, t107, t108, t109, t110, t111, t112, t113, t114, t115, t116, t117, t118], d⟩ [(46, v46), (47, v47), (48, v48), (49, v49), (50, v50), (51, v51), (6, v6), (7, v7)] = ⟨#[t0, t1, t2, t3, t4, t5, v6, v7, t8, t9, t10, t11, t12, t13, t14, t15, t16, t17, t18, t19, t20, t21, t22, t23, t24, t25, t26, t27, t28, t29, t30, t31, t32, t33, t34, t35, t36, t37, t38, t39, t40, t41, t42, t43, t44, t45, v46, v47, v48, v49, v50, v51, t52, t53, t54, t55, t56, t57, t58, t59, t60, t61, t62, t63, t64, t65, t66, t67, t68, t69, t70, t71, t72, t73, t74, t75, t76, t77, t78, t79, t80, t81, t82, t83, t84, t85, t86, t87, t88, t89, t90, t91, t92, t93, t94, t95, t96, t97, t98, t99, t100, t101, t102, t103, t104, t105, t106, t107, t108, t109, t110, t111, t112, t113, t114, t115, t116, t117, t118], d⟩ := by
  kernel_rfl
end Go.Proofs.Ytnlphjekillciaa
/- The document's Share, walked. -/
namespace Go.Proofs.Ytnlphjekillciaa
open Go.RowKit
set_option linter.unusedVariables false
set_option linter.unusedSimpArgs false

set_option maxHeartbeats 1000000 in
theorem rfloor_any (a b : Int) (w : World) (hb : 0 < b) (h1 : -4611686018427387904 ≤ a) (h2 : a ≤ 4611686018427387904) (h3 : b ≤ 4611686018427387904) :
    Calls Try.prog 40 #[.int .i64 a, .int .i64 b] w fun e w' => e = .returned (.int .i64 (a / b)) ∧ w' = w := by
  obtain ⟨d1, d2⟩ := div_down (a := a) hb
  obtain ⟨b1, b2, b3, b4⟩ := tdiv_size (a := a) hb
  obtain ⟨q, hq⟩ : ∃ q, a.tdiv b = q := ⟨_, rfl⟩
  obtain ⟨m, hm⟩ : ∃ m, a.tmod b = m := ⟨_, rfl⟩
  rw [hq, hm] at d1 d2
  rw [hq] at b1 b2
  rw [hm] at b3 b4
  have q1 : -4611686018427387904 ≤ q := by omega
  have q2 : q ≤ 4611686018427387904 := by omega
  have hz : ¬ b = 0 := by omega
  have hz' : (b == 0) = false := by simp; omega
  by_cases hm0 : m < 0
  · obtain ⟨e1, e2⟩ := d1 hm0
    rw [e1]
    clear d1 d2 e1 e2 b1 b2
    go_enter Try.func40, Try.ntmps40
    go_wp2_with fail
    go_ret
    exact ⟨rfl, rfl⟩
  · obtain ⟨e1, e2⟩ := d2 hm0
    rw [e1]
    clear d1 d2 e1 e2 b1 b2
    go_enter Try.func40, Try.ntmps40
    go_wp2_with fail
    go_ret
    exact ⟨rfl, rfl⟩
theorem anyT_hit {l : List Int} {i : Nat} (h : tooB (l.getD i 0) = true) : ∀ k, i < k → anyT l k = true
  | 0, hk => by omega
  | k + 1, hk => by
    show (anyT l k || tooB (l.getD k 0)) = true
    by_cases e : i = k
    · subst e; rw [h, Bool.or_true]
    · rw [anyT_hit h k (by omega)]; rfl
theorem tooB_of {z : Int} (h1 : ¬ 1099511627776 < z) (h2 : ¬ z < -1099511627776) : tooB z = false := by unfold tooB; rw [decide_eq_false h1, decide_eq_false h2]; rfl
theorem tooB_hi {z : Int} (h1 : 1099511627776 < z) : tooB z = true := by unfold tooB; rw [decide_eq_true h1, Bool.or_true]
theorem tooB_lo {z : Int} (h1 : z < -1099511627776) : tooB z = true := by unfold tooB; rw [decide_eq_true h1]; rfl
set_option maxHeartbeats 2000000 in
set_option maxRecDepth 100000 in
theorem rshare_bad (v : Value) (zs : List Int) (w : World) (hv : ISl w v zs) (hn : zs.length ≤ 35184372088832) (hs : ¬ shOk zs) :
    Calls Try.prog 42 #[v] w fun e w' => e = .returned (.tuple #[.slice none 0 0, .int .i64 91]) ∧ w' = w := by
  have hv' := hv
  obtain ⟨ad, c, rfl⟩ := hv.form
  by_cases h0 : zs.length = 0
  · rw [h0]
    go_enter Try.func42, Try.ntmps42
    go_wp2_with fail
    go_ret2
    exact ⟨rfl, rfl⟩
  · have h0' : ((zs.length : Int) == 0) = false := by simp; intro e; rw [e] at h0; exact h0 rfl
    have h0'' : ¬ (zs.length : Int) = 0 := by omega
    by_cases h1 : 64 < zs.length
    · have h1' : (64 : Int) < (zs.length : Int) := by omega
      have HV : Hid _ := hv
      clear hs hv hv'
      generalize zs.length = N at *
      go_enter Try.func42, Try.ntmps42
      go_wp2_with fail
      go_ret2
      exact ⟨rfl, rfl⟩
    · have h1' : ¬ (64 : Int) < (zs.length : Int) := by omega
      obtain ⟨N, eN⟩ : ∃ N, zs.length = N := ⟨_, rfl⟩
      have HV : Hid (ISl w (.slice ad N c) zs ∧ zs.length = N) := ⟨by rw [← eN]; exact hv, eN⟩
      have HS : Hid (anyT zs N = false → ¬ 0 < sumI zs N) := fun h h' => hs ⟨by omega, by omega, by rw [eN]; exact h, by rw [← sumI_zf, eN]; exact h'⟩
      have HM : Hid (∀ k, k ≤ N → anyT zs k = false → -((k : Int) * 1099511627776) ≤ sumI zs k ∧ sumI zs k ≤ (k : Int) * 1099511627776) := fun k hk ha => by
        clear hs HS
        induction k with
        | zero => simp [sumI]
        | succ k ih =>
          have ha' : (anyT zs k || tooB (zs.getD k 0)) = false := ha
          rw [Bool.or_eq_false_iff] at ha'
          have h2 := ih (by omega) ha'.1
          have h3 := anyT_bounds ha k (by omega)
          show _ ≤ sumI zs k + zs.getD k 0 ∧ sumI zs k + zs.getD k 0 ≤ _
          rw [show (((k + 1 : Nat) : Int)) * 1099511627776 = (k : Int) * 1099511627776 + 1099511627776 by rw [Int.natCast_add, Int.add_mul]; simp]
          omega
      rw [eN] at h0' h0'' h1' h1 hn ⊢
      clear hs hv hv' h0 eN
      go_enter Try.func42, Try.ntmps42
      go_wp2_with fail
      go_loopg [4, 5] N (fun gh s4 s5 wr => ∃ (i : Nat) (S : Int), s4 = .int .i64 S ∧ s5 = .int .i64 (i : Int) ∧ i ≤ N ∧ gh = N - i ∧ Hid (S = sumI zs i ∧ anyT zs i = false) ∧ wr = w)
      case atStart => exact ⟨0, 0, rfl, rfl, Nat.zero_le _, rfl, ⟨rfl, rfl⟩, rfl⟩
      case round =>
        obtain ⟨i, S, rfl, rfl, hi, rfl, HI, rfl⟩ := hrel
        by_cases hlt : i < N
        · have hltz : (i : Int) < (N : Int) := by omega
          obtain ⟨g1, o1, d1, hs1, hI1⟩ := HV.out.1.some (by have := HV.out.2; omega)
          rw [HV.out.2] at hs1 hI1
          injection hs1 with e1 e2 e3
          subst e1 e3
          have c1 := hI1 i hlt
          obtain ⟨z, hz⟩ : ∃ z, z = zs.getD i 0 := ⟨_, rfl⟩
          rw [← hz] at c1
          have HZ : Hid (z = zs.getD i 0) := hz
          clear hz hI1 e2
          by_cases t1 : 1099511627776 < z
          · go_wp2_with fail
            go_ret2
            exact ⟨rfl, rfl⟩
          · by_cases t2 : z < -1099511627776
            · go_wp2_with fail
              go_ret2
              exact ⟨rfl, rfl⟩
            · have HI2 : Hid (S + z = sumI zs (i + 1) ∧ anyT zs (i + 1) = false) := by
                refine ⟨?_, ?_⟩
                · show S + z = sumI zs i + zs.getD i 0
                  rw [HI.out.1, HZ.out]
                · show (anyT zs i || tooB (zs.getD i 0)) = false
                  rw [HI.out.2, ← HZ.out, tooB_of t1 t2]; rfl
              have b1 := HM.out i (by omega) HI.out.2
              have b2 := HM.out (i + 1) (by omega) HI2.out.2
              rw [← HI.out.1] at b1
              rw [← HI2.out.1] at b2
              have b3 : -4611686018427387904 ≤ S := by omega
              have b4 : S ≤ 4611686018427387904 := by omega
              have b5 : -9223372036854775808 ≤ S + z := by omega
              have b6 : S + z ≤ 9223372036854775807 := by omega
              clear b1 b2
              go_wp2_with fail
              go_roundg (N - (i + 1))
              case measure => go_light; omega
              case rel => go_light; exact ⟨i + 1, S + z, rfl, by simp, by omega, rfl, HI2, rfl⟩
        · have hge : ¬ (i : Int) < (N : Int) := by omega
          obtain rfl : i = N := by omega
          have hS : S ≤ 0 := by have := HS.out HI.out.2; rw [← HI.out.1] at this; omega
          go_wp2_with fail
          go_ret2
          exact ⟨rfl, rfl⟩
/-- What Share holds while it divides, and while it gives what is missing. -/
structure Ds (w wr : World) (f h : Nat → Int) (n g gr : Nat) : Prop where
  q : Q w wr
  l : IRow wr g (tabI n f)
  r : IRow wr gr (tabI n h)
  l1 : w.heap.size ≤ g
  l2 : w.heap.size ≤ gr
  ne : g ≠ gr
theorem Ds.next {w wr x : World} {f h : Nat → Int} {n g gr : Nat} (D : Ds w wr f h n g gr) (q : Q wr x) : Ds w x f h n g gr := ⟨D.q.trans q, D.l.next q, D.r.next q, D.l1, D.l2, D.ne⟩
theorem Ds.setl {w wr : World} {f h f' : Nat → Int} {n g gr : Nat} (D : Ds w wr f h n g gr) {i : Nat} (hi : i < n) {u : Int} (hu : u = f' i) (hs : ∀ j, j ≠ i → f' j = f j) : Ds w (wr.setCell ⟨g, i, none⟩ (.int .i64 u)) f' h n g gr := by
  refine ⟨D.q.set D.l1 _, ?_, D.r.other (p := ⟨g, i, none⟩) D.ne _, D.l1, D.l2, D.ne⟩
  have := D.l.set (i := i) (by rw [tabI_len]; exact hi) u
  rw [tabI_set (g := f') hu hs] at this
  exact this
theorem Ds.setr {w wr : World} {f h h' : Nat → Int} {n g gr : Nat} (D : Ds w wr f h n g gr) {i : Nat} (hi : i < n) {u : Int} (hu : u = h' i) (hs : ∀ j, j ≠ i → h' j = h j) : Ds w (wr.setCell ⟨gr, i, none⟩ (.int .i64 u)) f h' n g gr := by
  refine ⟨D.q.set D.l2 _, D.l.other (p := ⟨gr, i, none⟩) (fun e => D.ne e.symm) _, ?_, D.l1, D.l2, D.ne⟩
  have := D.r.set (i := i) (by rw [tabI_len]; exact hi) u
  rw [tabI_set (g := h') hu hs] at this
  exact this
def partF (f : Nat → Int) (i j : Nat) : Int := if j < i then f j else 0
theorem partF_new (f : Nat → Int) (i : Nat) : f i = partF f (i + 1) i := by unfold partF; rw [if_pos (by omega)]
theorem partF_old (f : Nat → Int) (i : Nat) : ∀ j, j ≠ i → partF f (i + 1) j = partF f i j := fun j hj => by
  unfold partF
  by_cases c : j < i
  · rw [if_pos c, if_pos (by omega)]
  · rw [if_neg c, if_neg (by omega)]
theorem sumF_flo_bd {z : Nat → Int} {S : Int} (hS : 0 < S) (hM : ∀ i, -1099511627776 ≤ z i ∧ z i ≤ 1099511627776) (n : Nat) : -((n : Int) * 72057594037927936) ≤ sumF (flo z S) n ∧ sumF (flo z S) n ≤ (n : Int) * 72057594037927936 := by
  refine ⟨?_, ?_⟩
  · have := sumF_mono (f := fun _ => -72057594037927936) (g := flo z S) n (fun i _ => (flo_size (i := i) hS (hM i)).1)
    rw [sumF_const] at this
    omega
  · have := sumF_mono (f := flo z S) (g := fun _ => 72057594037927936) n (fun i _ => (flo_size (i := i) hS (hM i)).2)
    rw [sumF_const] at this
    omega
end Go.Proofs.Ytnlphjekillciaa
