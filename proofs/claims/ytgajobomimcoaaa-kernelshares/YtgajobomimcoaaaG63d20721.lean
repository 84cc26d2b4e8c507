/- The document's Share: two rows that it makes, in whatever order. -/
import Derived.Test.YtgajobomimcoaaaGee595946
import Derived.Test.YtgajobomimcoaaaGe815dc40
import Derived.Test.YtgajobomimcoaaaG003bfc43
namespace Go.Proofs.Ytgajobomimcoaaa
open Go.RowKit
set_option linter.unusedVariables false
set_option linter.unusedSimpArgs false

/-- A row of noughts that is made. -/
def rowS (B n : Nat) : Sp2 := sP (fun v x => ∃ g, v = .slice (some ⟨g, 0, none⟩) n n ∧ B ≤ g ∧ g < x.heap.size ∧ IRow x g (List.replicate n 0)) (fun v x x' ⟨g, h1, h2, h3, h4⟩ q => ⟨g, h1, h2, by have := q.1.size; omega, h4.next q⟩)
def oRs_0 : Oper := { dst := some 46, op := .move (.tmp 0), type := 36, pos := "halideref9.go:40", after := #[], guard := none }
def oRs_1 : Oper := { dst := some 47, op := .call { callee := .builtin .len, args := #[.tmp 46], argTypes := #[36] }, type := 3, pos := "halideref9.go:40", after := #[⟨0, .data⟩], guard := none }
def oRs_2 : Oper := { dst := some 48, op := .makeSlice 36 (.tmp 47) (.tmp 47), type := 36, pos := "halideref9.go:40", after := #[⟨1, .data⟩, ⟨1, .data⟩], guard := none }
def oRs_3 : Oper := { dst := some 49, op := .move (.tmp 0), type := 36, pos := "halideref9.go:40", after := #[], guard := none }
def oRs_4 : Oper := { dst := some 50, op := .call { callee := .builtin .len, args := #[.tmp 49], argTypes := #[36] }, type := 3, pos := "halideref9.go:40", after := #[⟨3, .data⟩], guard := none }
def oRs_5 : Oper := { dst := some 51, op := .makeSlice 36 (.tmp 50) (.tmp 50), type := 36, pos := "halideref9.go:40", after := #[⟨4, .data⟩, ⟨4, .data⟩], guard := none }
def oRs_6 : Oper := { dst := some 6, op := .assign (.tmp 48), type := 36, pos := "halideref9.go:40", after := #[⟨2, .data⟩, ⟨0, .phase⟩, ⟨1, .phase⟩, ⟨2, .phase⟩, ⟨3, .textOnly .lateStores⟩, ⟨4, .textOnly .lateStoresUnsure⟩, ⟨5, .textOnly .lateStoresUnsure⟩], guard := none }
def oRs_7 : Oper := { dst := some 7, op := .assign (.tmp 51), type := 36, pos := "halideref9.go:40", after := #[⟨5, .data⟩, ⟨6, .chain⟩, ⟨0, .phase⟩, ⟨1, .phase⟩, ⟨2, .phase⟩, ⟨3, .phase⟩, ⟨4, .phase⟩, ⟨5, .phase⟩, ⟨6, .phase⟩], guard := none }
def opsRs : List Oper := [oRs_0, oRs_1, oRs_2, oRs_3, oRs_4, oRs_5, oRs_6, oRs_7]
def sRs : List Nat := [46, 47, 48, 49, 50, 51, 6, 7]
def spRs (B : Nat) (ad : Option Addr) (n c : Nat) : List Sp2 := [sV (.slice ad n c), sV (.int .i64 (n : Int)), rowS B n, sV (.slice ad n c), sV (.int .i64 (n : Int)), rowS B n, sE 2, sE 5]
structure EnvRs (a0 : Act) (w : World) (B : Nat) (ad : Option Addr) (n c : Nat) : Prop where
  h0 : a0.tmps[0]? = some (.slice ad n c)
  hn : n ≤ 1048576
  hB : B ≤ w.heap.size
theorem yRs_0 {a0 : Act} {w : World} {B : Nat} {ad : Option Addr} {n c : Nat} (E : EnvRs a0 w B ad n c) {R : Exit → Act → World → Prop} {a : Act} {x : World} {val : Nat → Value} (q : Q w x) (oth : ∀ j, j ∉ sRs → a.tmps[j]? = a0.tmps[j]?) (dep : ∀ ed ∈ oRs_0.after, Region.binds .any ed = true → ∀ s' t', (spRs B ad n c)[ed.on]? = some s' → sRs[ed.on]? = some t' → a.tmps[t']? = some (val ed.on) ∧ s'.p (val ed.on) val x) : Yld Try.prog R oRs_0 a x 46 (fun v x' => (sV (.slice ad n c)).p v val x' ∧ (0 ∈ ([2, 5] : List Nat) → x.heap.size ≤ blkV v ∧ blkV v < x'.heap.size)) := by
  exact yld_move ((oth 0 (by decide)).trans E.h0) ⟨rfl, fun h => absurd h (by decide)⟩
theorem yRs_1 {a0 : Act} {w : World} {B : Nat} {ad : Option Addr} {n c : Nat} (E : EnvRs a0 w B ad n c) {R : Exit → Act → World → Prop} {a : Act} {x : World} {val : Nat → Value} (q : Q w x) (oth : ∀ j, j ∉ sRs → a.tmps[j]? = a0.tmps[j]?) (dep : ∀ ed ∈ oRs_1.after, Region.binds .any ed = true → ∀ s' t', (spRs B ad n c)[ed.on]? = some s' → sRs[ed.on]? = some t' → a.tmps[t']? = some (val ed.on) ∧ s'.p (val ed.on) val x) : Yld Try.prog R oRs_1 a x 47 (fun v x' => (sV (.int .i64 (n : Int))).p v val x' ∧ (1 ∈ ([2, 5] : List Nat) → x.heap.size ≤ blkV v ∧ blkV v < x'.heap.size)) := by
  obtain ⟨t0, f0⟩ := dep ⟨0, .data⟩ (by simp [oRs_1]) rfl _ 46 rfl rfl
  have f0 : val 0 = (.slice ad n c) := f0
  rw [f0] at t0
  exact yld_run (x' := x) rfl (by simp [oRs_1, execOp, resolve, invoke, builtin, t0, go_sem]) (Q.refl x) ⟨rfl, fun h => absurd h (by decide)⟩
theorem yRs_2 {a0 : Act} {w : World} {B : Nat} {ad : Option Addr} {n c : Nat} (E : EnvRs a0 w B ad n c) {R : Exit → Act → World → Prop} {a : Act} {x : World} {val : Nat → Value} (q : Q w x) (oth : ∀ j, j ∉ sRs → a.tmps[j]? = a0.tmps[j]?) (dep : ∀ ed ∈ oRs_2.after, Region.binds .any ed = true → ∀ s' t', (spRs B ad n c)[ed.on]? = some s' → sRs[ed.on]? = some t' → a.tmps[t']? = some (val ed.on) ∧ s'.p (val ed.on) val x) : Yld Try.prog R oRs_2 a x 48 (fun v x' => (rowS B n).p v val x' ∧ (2 ∈ ([2, 5] : List Nat) → x.heap.size ≤ blkV v ∧ blkV v < x'.heap.size)) := by
  obtain ⟨t1, f1⟩ := dep ⟨1, .data⟩ (by simp [oRs_2]) rfl _ 47 rfl rfl
  have f1 : val 1 = (.int .i64 (n : Int)) := f1
  rw [f1] at t1
  obtain ⟨M, hM, hF⟩ := make_i n E.hn
  have hrun : (execOp a.eval oRs_2).run Try.prog x = .ok (.value (.slice (some ⟨x.heap.size, 0, none⟩) n n)) (x.alloc (.cells M 3)) := by
    have := tmp_eval t1
    simp [oRs_2, execOp, this, hM]
  have := q.1.size
  have := E.hB
  exact yld_run rfl hrun ((Q.refl x).cells _ _) ⟨⟨_, rfl, by omega, by simp, hF x⟩, fun _ => ⟨Nat.le_refl _, by simp [blkV]⟩⟩
theorem yRs_3 {a0 : Act} {w : World} {B : Nat} {ad : Option Addr} {n c : Nat} (E : EnvRs a0 w B ad n c) {R : Exit → Act → World → Prop} {a : Act} {x : World} {val : Nat → Value} (q : Q w x) (oth : ∀ j, j ∉ sRs → a.tmps[j]? = a0.tmps[j]?) (dep : ∀ ed ∈ oRs_3.after, Region.binds .any ed = true → ∀ s' t', (spRs B ad n c)[ed.on]? = some s' → sRs[ed.on]? = some t' → a.tmps[t']? = some (val ed.on) ∧ s'.p (val ed.on) val x) : Yld Try.prog R oRs_3 a x 49 (fun v x' => (sV (.slice ad n c)).p v val x' ∧ (3 ∈ ([2, 5] : List Nat) → x.heap.size ≤ blkV v ∧ blkV v < x'.heap.size)) := by
  exact yld_move ((oth 0 (by decide)).trans E.h0) ⟨rfl, fun h => absurd h (by decide)⟩
theorem yRs_4 {a0 : Act} {w : World} {B : Nat} {ad : Option Addr} {n c : Nat} (E : EnvRs a0 w B ad n c) {R : Exit → Act → World → Prop} {a : Act} {x : World} {val : Nat → Value} (q : Q w x) (oth : ∀ j, j ∉ sRs → a.tmps[j]? = a0.tmps[j]?) (dep : ∀ ed ∈ oRs_4.after, Region.binds .any ed = true → ∀ s' t', (spRs B ad n c)[ed.on]? = some s' → sRs[ed.on]? = some t' → a.tmps[t']? = some (val ed.on) ∧ s'.p (val ed.on) val x) : Yld Try.prog R oRs_4 a x 50 (fun v x' => (sV (.int .i64 (n : Int))).p v val x' ∧ (4 ∈ ([2, 5] : List Nat) → x.heap.size ≤ blkV v ∧ blkV v < x'.heap.size)) := by
  obtain ⟨t3, f3⟩ := dep ⟨3, .data⟩ (by simp [oRs_4]) rfl _ 49 rfl rfl
  have f3 : val 3 = (.slice ad n c) := f3
  rw [f3] at t3
  exact yld_run (x' := x) rfl (by simp [oRs_4, execOp, resolve, invoke, builtin, t3, go_sem]) (Q.refl x) ⟨rfl, fun h => absurd h (by decide)⟩
theorem yRs_5 {a0 : Act} {w : World} {B : Nat} {ad : Option Addr} {n c : Nat} (E : EnvRs a0 w B ad n c) {R : Exit → Act → World → Prop} {a : Act} {x : World} {val : Nat → Value} (q : Q w x) (oth : ∀ j, j ∉ sRs → a.tmps[j]? = a0.tmps[j]?) (dep : ∀ ed ∈ oRs_5.after, Region.binds .any ed = true → ∀ s' t', (spRs B ad n c)[ed.on]? = some s' → sRs[ed.on]? = some t' → a.tmps[t']? = some (val ed.on) ∧ s'.p (val ed.on) val x) : Yld Try.prog R oRs_5 a x 51 (fun v x' => (rowS B n).p v val x' ∧ (5 ∈ ([2, 5] : List Nat) → x.heap.size ≤ blkV v ∧ blkV v < x'.heap.size)) := by
  obtain ⟨t4, f4⟩ := dep ⟨4, .data⟩ (by simp [oRs_5]) rfl _ 50 rfl rfl
  have f4 : val 4 = (.int .i64 (n : Int)) := f4
  rw [f4] at t4
  obtain ⟨M, hM, hF⟩ := make_i n E.hn
  have hrun : (execOp a.eval oRs_5).run Try.prog x = .ok (.value (.slice (some ⟨x.heap.size, 0, none⟩) n n)) (x.alloc (.cells M 3)) := by
    have := tmp_eval t4
    simp [oRs_5, execOp, this, hM]
  have := q.1.size
  have := E.hB
  exact yld_run rfl hrun ((Q.refl x).cells _ _) ⟨⟨_, rfl, by omega, by simp, hF x⟩, fun _ => ⟨Nat.le_refl _, by simp [blkV]⟩⟩
theorem yRs_6 {a0 : Act} {w : World} {B : Nat} {ad : Option Addr} {n c : Nat} (E : EnvRs a0 w B ad n c) {R : Exit → Act → World → Prop} {a : Act} {x : World} {val : Nat → Value} (q : Q w x) (oth : ∀ j, j ∉ sRs → a.tmps[j]? = a0.tmps[j]?) (dep : ∀ ed ∈ oRs_6.after, Region.binds .any ed = true → ∀ s' t', (spRs B ad n c)[ed.on]? = some s' → sRs[ed.on]? = some t' → a.tmps[t']? = some (val ed.on) ∧ s'.p (val ed.on) val x) : Yld Try.prog R oRs_6 a x 6 (fun v x' => (sE 2).p v val x' ∧ (6 ∈ ([2, 5] : List Nat) → x.heap.size ≤ blkV v ∧ blkV v < x'.heap.size)) := by
  obtain ⟨t2, f2⟩ := dep ⟨2, .data⟩ (by simp [oRs_6]) rfl _ 48 rfl rfl
  exact yld_run (x' := x) rfl (by rw [← tmp_eval t2]; rfl) (Q.refl x) ⟨rfl, fun h => absurd h (by decide)⟩
theorem yRs_7 {a0 : Act} {w : World} {B : Nat} {ad : Option Addr} {n c : Nat} (E : EnvRs a0 w B ad n c) {R : Exit → Act → World → Prop} {a : Act} {x : World} {val : Nat → Value} (q : Q w x) (oth : ∀ j, j ∉ sRs → a.tmps[j]? = a0.tmps[j]?) (dep : ∀ ed ∈ oRs_7.after, Region.binds .any ed = true → ∀ s' t', (spRs B ad n c)[ed.on]? = some s' → sRs[ed.on]? = some t' → a.tmps[t']? = some (val ed.on) ∧ s'.p (val ed.on) val x) : Yld Try.prog R oRs_7 a x 7 (fun v x' => (sE 5).p v val x' ∧ (7 ∈ ([2, 5] : List Nat) → x.heap.size ≤ blkV v ∧ blkV v < x'.heap.size)) := by
  obtain ⟨t5, f5⟩ := dep ⟨5, .data⟩ (by simp [oRs_7]) rfl _ 51 rfl rfl
  exact yld_run (x' := x) rfl (by rw [← tmp_eval t5]; rfl) (Q.refl x) ⟨rfl, fun h => absurd h (by decide)⟩
theorem hopRs {a0 : Act} {w : World} {B : Nat} {ad : Option Addr} {n c : Nat} (E : EnvRs a0 w B ad n c) {R : Exit → Act → World → Prop} : ∀ (i t : Nat) (o : Oper) (sp : Sp2) (a : Act) (x : World) (val : Nat → Value), sRs[i]? = some t → opsRs[i]? = some o → (spRs B ad n c)[i]? = some sp → Q w x → (∀ j, j ∉ sRs → a.tmps[j]? = a0.tmps[j]?) → (∀ ed ∈ o.after, Region.binds .any ed = true → ∀ s' t', (spRs B ad n c)[ed.on]? = some s' → sRs[ed.on]? = some t' → a.tmps[t']? = some (val ed.on) ∧ s'.p (val ed.on) val x) → Yld Try.prog R o a x t (fun v x' => sp.p v val x' ∧ (i ∈ ([2, 5] : List Nat) → x.heap.size ≤ blkV v ∧ blkV v < x'.heap.size))
  | 0, t, o, sp, a, x, val, ht, ho, hs, q, oth, dep => by
    have e1 : oRs_0 = o := Option.some.inj ho
    have e2 : 46 = t := Option.some.inj ht
    have e3 := Option.some.inj hs
    subst e1 e2 e3
    exact yRs_0 E q oth dep
  | 1, t, o, sp, a, x, val, ht, ho, hs, q, oth, dep => by
    have e1 : oRs_1 = o := Option.some.inj ho
    have e2 : 47 = t := Option.some.inj ht
    have e3 := Option.some.inj hs
    subst e1 e2 e3
    exact yRs_1 E q oth dep
  | 2, t, o, sp, a, x, val, ht, ho, hs, q, oth, dep => by
    have e1 : oRs_2 = o := Option.some.inj ho
    have e2 : 48 = t := Option.some.inj ht
    have e3 := Option.some.inj hs
    subst e1 e2 e3
    exact yRs_2 E q oth dep
  | 3, t, o, sp, a, x, val, ht, ho, hs, q, oth, dep => by
    have e1 : oRs_3 = o := Option.some.inj ho
    have e2 : 49 = t := Option.some.inj ht
    have e3 := Option.some.inj hs
    subst e1 e2 e3
    exact yRs_3 E q oth dep
  | 4, t, o, sp, a, x, val, ht, ho, hs, q, oth, dep => by
    have e1 : oRs_4 = o := Option.some.inj ho
    have e2 : 50 = t := Option.some.inj ht
    have e3 := Option.some.inj hs
    subst e1 e2 e3
    exact yRs_4 E q oth dep
  | 5, t, o, sp, a, x, val, ht, ho, hs, q, oth, dep => by
    have e1 : oRs_5 = o := Option.some.inj ho
    have e2 : 51 = t := Option.some.inj ht
    have e3 := Option.some.inj hs
    subst e1 e2 e3
    exact yRs_5 E q oth dep
  | 6, t, o, sp, a, x, val, ht, ho, hs, q, oth, dep => by
    have e1 : oRs_6 = o := Option.some.inj ho
    have e2 : 6 = t := Option.some.inj ht
    have e3 := Option.some.inj hs
    subst e1 e2 e3
    exact yRs_6 E q oth dep
  | 7, t, o, sp, a, x, val, ht, ho, hs, q, oth, dep => by
    have e1 : oRs_7 = o := Option.some.inj ho
    have e2 : 7 = t := Option.some.inj ht
    have e3 := Option.some.inj hs
    subst e1 e2 e3
    exact yRs_7 E q oth dep
  | i + 8, t, o, sp, a, x, val, ht, ho, hs, q, oth, dep => by cases ho
set_option maxHeartbeats 1000000 in
theorem regionRs {id : Nat} {l : List Oper} {R : Exit → Act → World → Prop} {a0 : Act} {w : World} {B : Nat} {ad : Option Addr} {n c : Nat} (hl : l = opsRs) (hsz : a0.tmps.size = 119) (E : EnvRs a0 w B ad n c)
    (hR : ∀ x g gr, Q w x → B ≤ g → B ≤ gr → g ≠ gr → g < x.heap.size → gr < x.heap.size → IRow x g (List.replicate n 0) → IRow x gr (List.replicate n 0) → R .normal (putAll a0 [(46, .slice ad n c), (47, .int .i64 (n : Int)), (48, .slice (some ⟨g, 0, none⟩) n n), (49, .slice ad n c), (50, .int .i64 (n : Int)), (51, .slice (some ⟨gr, 0, none⟩) n n), (6, .slice (some ⟨g, 0, none⟩) n n), (7, .slice (some ⟨gr, 0, none⟩) n n)]) x) :
    (Code.region id l.toArray true).wp Try.prog R a0 w := by
  subst hl
  refine wp_region_new sRs (spRs B ad n c) [[], [], [], [], [], [], [2], [5]] [2, 5] (by kernel_rfl) (by decide +kernel) (by decide +kernel) rfl (fun t ht => ?_) (hopRs E) (fun a x val q size defers other facts apart => ?_)
  · rw [hsz]
    revert t
    decide
  · obtain ⟨t0, f0⟩ := facts 0 46 _ rfl rfl
    have f0 : val 0 = (.slice ad n c) := f0
    rw [f0] at t0
    obtain ⟨t1, f1⟩ := facts 1 47 _ rfl rfl
    have f1 : val 1 = (.int .i64 (n : Int)) := f1
    rw [f1] at t1
    obtain ⟨t2, f2⟩ := facts 2 48 _ rfl rfl
    obtain ⟨t3, f3⟩ := facts 3 49 _ rfl rfl
    have f3 : val 3 = (.slice ad n c) := f3
    rw [f3] at t3
    obtain ⟨t4, f4⟩ := facts 4 50 _ rfl rfl
    have f4 : val 4 = (.int .i64 (n : Int)) := f4
    rw [f4] at t4
    obtain ⟨t5, f5⟩ := facts 5 51 _ rfl rfl
    obtain ⟨t6, f6⟩ := facts 6 6 _ rfl rfl
    have f6 : val 6 = val 2 := f6
    obtain ⟨t7, f7⟩ := facts 7 7 _ rfl rfl
    have f7 : val 7 = val 5 := f7
    obtain ⟨g, e2, a1, a2, a3⟩ := f2
    obtain ⟨gr, e5, b1, b2, b3⟩ := f5
    have ap := apart 2 5 (by simp) (by simp) (by decide) (by decide) (by decide)
    rw [e2, e5] at ap
    rw [f6, e2] at t6
    rw [f7, e5] at t7
    rw [e2] at t2
    rw [e5] at t5
    have hA := act_puts (a := a) (a0 := a0) [(46, .slice ad n c), (47, .int .i64 (n : Int)), (48, .slice (some ⟨g, 0, none⟩) n n), (49, .slice ad n c), (50, .int .i64 (n : Int)), (51, .slice (some ⟨gr, 0, none⟩) n n), (6, .slice (some ⟨g, 0, none⟩) n n), (7, .slice (some ⟨gr, 0, none⟩) n n)] (show ([46, 47, 48, 49, 50, 51, 6, 7] : List Nat).Nodup by decide) size defers (fun j hj => other j (by simpa [sRs] using hj)) (fun r hr => ?_)
    · refine ⟨?_⟩
      rw [hA]
      exact hR x g gr q a1 b1 ap a2 b2 a3 b3
    · simp only [List.mem_cons, List.not_mem_nil, or_false] at hr
      rcases hr with rfl | rfl | rfl | rfl | rfl | rfl | rfl | rfl
      · exact t0
      · exact t1
      · exact t2
      · exact t3
      · exact t4
      · exact t5
      · exact t6
      · exact t7
set_option maxRecDepth 100000 in
theorem normRs {t0 t1 t2 t3 t4 t5 t6 t7 t8 t9 t10 t11 t12 t13 t14 t15 t16 t17 t18 t19 t20 t21 t22 t23 t24 t25 t26 t27 t28 t29 t30 t31 t32 t33 t34 t35 t36 t37 t38 t39 t40 t41 t42 t43 t44 t45 t46 t47 t48 t49 t50 t51 t52 t53 t54 t55 t56 t57 t58 t59 t60 t61 t62 t63 t64 t65 t66 t67 t68 t69 t70 t71 t72 t73 t74 t75 t76 t77 t78 t79 t80 t81 t82 t83 t84 t85 t86 t87 t88 t89 t90 t91 t92 t93 t94 t95 t96 t97 t98 t99 t100 t101 t102 t103 t104 t105 t106 t107 t108 t109 t110 t111 t112 t113 t114 t115 t116 t117 t118 v46 v47 v48 v49 v50 v51 v6 v7 : Value} {d : List Deferred} : putAll ⟨#[t0, t1, t2, t3, t4, t5, t6, t7, t8, t9, t10, t11, t12, t13, t14, t15, t16, t17, t18, t19, t20, t21, t22, t23, t24, t25, t26, t27, t28, t29, t30, t31, t32, t33, t34, t35, t36, t37, t38, t39, t40, t41, t42, t43, t44, t45, t46, t47, t48, t49, t50, t51, t52, t53, t54, t55, t56, t57, t58, t59, t60, t61, t62, t63, t64, t65, t66, t67, t68, t69, t70, t71, t72, t73, t74, t75, t76, t77, t78, t79, t80, t81, t82, t83, t84, t85, t86, t87, t88, t89, t90, t91, t92, t93, t94, t95, t96, t97, t98, t99, t100, t101, t102, t103, t104, t105, t106, t107, t108, t109, t110, t111, t112, t113, t114, t115, t116, t117, t118], d⟩ [(46, v46), (47, v47), (48, v48), (49, v49), (50, v50), (51, v51), (6, v6), (7, v7)] = ⟨#[t0, t1, t2, t3, t4, t5, v6, v7, t8, t9, t10, t11, t12, t13, t14, t15, t16, t17, t18, t19, t20, t21, t22, t23, t24, t25, t26, t27, t28, t29, t30, t31, t32, t33, t34, t35, t36, t37, t38, t39, t40, t41, t42, t43, t44, t45, v46, v47, v48, v49, v50, v51, t52, t53, t54, t55, t56, t57, t58, t59, t60, t61, t62, t63, t64, t65, t66, t67, t68, t69, t70, t71, t72, t73, t74, t75, t76, t77, t78, t79, t80, t81, t82, t83, t84, t85, t86, t87, t88, t89, t90, t91, t92, t93, t94, t95, t96, t97, t98, t99, t100, t101, t102, t103, t104, t105, t106, t107, t108, t109, t110, t111, t112, t113, t114, t115, t116, t117, t118], d⟩ := by
  kernel_rfl
end Go.Proofs.Ytgajobomimcoaaa
/- Shares by taking the greatest rest again and again, plain: the same shares. -/
namespace Go.Proofs.Ytgajobomimcoaaa
open Go.Sort
set_option linter.unusedVariables false
set_option linter.unusedSimpArgs false

/-- The first of the greatest among the first i. -/
structure Bst (f : Nat → Int) (i b : Nat) : Prop where
  lt : b < i
  le : ∀ j, j < i → f j ≤ f b
  fst : ∀ j, j < b → f j < f b
theorem Bst.one (f : Nat → Int) : Bst f 1 0 := by
  refine ⟨by omega, fun j hj => ?_, fun j hj => by omega⟩
  obtain rfl : j = 0 := by omega
  exact Int.le_refl _
theorem Bst.new {f : Nat → Int} {i b : Nat} (h : Bst f i b) (hg : f b < f i) : Bst f (i + 1) i :=
  ⟨by omega, fun j hj => by
    by_cases e : j = i
    · subst e; exact Int.le_refl _
    · have := h.le j (by omega); omega, fun j hj => by have := h.le j hj; omega⟩
theorem Bst.old {f : Nat → Int} {i b : Nat} (h : Bst f i b) (hg : ¬ f b < f i) : Bst f (i + 1) b :=
  ⟨by have := h.lt; omega, fun j hj => by
    by_cases e : j = i
    · subst e; omega
    · exact h.le j (by omega), h.fst⟩
theorem Bst.unique {f : Nat → Int} {i b c : Nat} (h : Bst f i b) (k : Bst f i c) : b = c := by
  have h1 := h.le c k.lt
  have h2 := k.le b h.lt
  rcases Nat.lt_trichotomy b c with e | e | e
  · have := k.fst b e; omega
  · exact e
  · have := h.fst c e; omega
/-- The rests behind k rounds. -/
def rstK (z : Nat → Int) (S : Int) (n k i : Nat) : Int := if (i : Int) ∈ (ordL (rsV z S) n).take k then -1 else rsV z S i
theorem rstK_zero (z : Nat → Int) (S : Int) (n i : Nat) : rstK z S n 0 i = rsV z S i := by unfold rstK; rw [List.take_zero, if_neg (by simp)]
theorem not_take {r : Int → Int} {n k : Nat} {o : Int} (h : (ordL r n)[k]? = some o) : o ∉ (ordL r n).take k := fun hm => by
  obtain ⟨i, hi⟩ := List.getElem?_of_mem hm
  have hik : i < k := by have := (List.getElem?_eq_some_iff.1 hi).1; rw [List.length_take] at this; omega
  rw [List.getElem?_take_of_lt hik] at hi
  exact tlt_irr (ordL_lt hi h hik)
theorem rstK_hit {z : Nat → Int} {S : Int} {n k o : Nat} (h : (ordL (rsV z S) n)[k]? = some (o : Int)) : rstK z S n (k + 1) o = -1 ∧ ∀ i, i ≠ o → rstK z S n (k + 1) i = rstK z S n k i := by
  unfold rstK
  have e : (ordL (rsV z S) n).take (k + 1) = (ordL (rsV z S) n).take k ++ [(o : Int)] := by rw [List.take_add_one, h]; rfl
  refine ⟨?_, fun i hi => ?_⟩
  · rw [e, if_pos (by simp)]
  · rw [e]
    by_cases c : (i : Int) ∈ (ordL (rsV z S) n).take k
    · rw [if_pos (List.mem_append_left _ c), if_pos c]
    · rw [if_neg (fun hm => by
        rcases List.mem_append.1 hm with h1 | h1
        · exact c h1
        · rw [List.mem_singleton] at h1; omega), if_neg c]
/-- What is found is the next one in the order of rests. -/
theorem bst_ord {z : Nat → Int} {S : Int} (hS : 0 < S) {n k o : Nat} (h : (ordL (rsV z S) n)[k]? = some (o : Int)) : Bst (rstK z S n k) n o := by
  have hlt : o < n := by have := ordL_mem.1 (List.mem_of_getElem? h); omega
  have ho : rstK z S n k o = rsV z S o := by unfold rstK; rw [if_neg (not_take h)]
  have key : ∀ j, j < n → j ≠ o → rstK z S n k j < rsV z S o ∨ (rstK z S n k j = rsV z S o ∧ o < j) := fun j hj hne => by
    have h0 := rs_nonneg z hS (o : Int)
    unfold rstK
    split
    · left; omega
    · rename_i hm
      obtain ⟨p, hp⟩ := List.getElem?_of_mem (ordL_mem.2 ⟨by omega, by omega⟩ : (j : Int) ∈ ordL (rsV z S) n)
      have hkp : k < p := by
        rcases Nat.lt_trichotomy p k with c | c | c
        · exact absurd (List.mem_of_getElem? (by rw [List.getElem?_take_of_lt c]; exact hp : ((ordL (rsV z S) n).take k)[p]? = some (j : Int))) hm
        · subst c; rw [h] at hp; injection hp with hp; omega
        · exact c
      have ht := ordL_lt h hp hkp
      unfold tlt at ht
      omega
  refine ⟨hlt, fun j hj => ?_, fun j hj => ?_⟩
  · by_cases e : j = o
    · subst e; exact Int.le_refl _
    · rw [ho]; rcases key j hj e with c | c <;> omega
  · rw [ho]; rcases key j (by omega) (by omega) with c | c
    · exact c
    · omega
theorem rst_bd (z : Nat → Int) {S : Int} (hS : 0 < S) (n k i : Nat) : -1 ≤ rstK z S n k i ∧ rstK z S n k i < S := by
  unfold rstK
  have h1 := rs_nonneg z hS (i : Int)
  have h2 := rs_lt z hS (i : Int)
  split <;> omega
end Go.Proofs.Ytgajobomimcoaaa
