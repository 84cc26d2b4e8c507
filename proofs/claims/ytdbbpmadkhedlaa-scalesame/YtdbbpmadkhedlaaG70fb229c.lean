/- blendOf: two rows and a box, in whatever order. -/
import Derived.Test.YtdbbpmadkhedlaaG2e05c6c0
import Derived.Test.YtdbbpmadkhedlaaG54d451d2
import Derived.Test.YtdbbpmadkhedlaaG0c782b79
namespace Go.Proofs.Ytdbbpmadkhedlaa
open Go.RowKit
set_option linter.unusedVariables false
set_option linter.unusedSimpArgs false

def sB2 (i j : Nat) : Sp2 := ⟨fun v val _ => v = .agg #[val i, val j], [i, j], fun h _ e => by rw [h, e i (by simp), e j (by simp)]⟩
/-- A new box for two lists. -/
def boxS (B : Nat) : Sp2 := sP (fun v x => ∃ g, v = .pointer (some ⟨g, 0, none⟩) ∧ B ≤ g ∧ g < x.heap.size ∧ x.cell? ⟨g, 0, none⟩ = some (.slice none 0 0) ∧ x.cell? ⟨g, 1, none⟩ = some (.slice none 0 0) ∧ ∀ j, x.frozen? ⟨g, j, none⟩ = false)
  (fun v x x' ⟨g, h1, h2, h3, h4, h5, h6⟩ q => ⟨g, h1, h2, by have := q.1.size; omega, q.cell h4, q.cell h5, fun j => by rw [q.2]; exact h6 j⟩)
structure Bld2 (B n g gr gb : Nat) (w x : World) : Prop where
  q : Q w x
  l1 : B ≤ g
  l2 : B ≤ gr
  l3 : B ≤ gb
  n12 : g ≠ gr
  n13 : g ≠ gb
  n23 : gr ≠ gb
  r1 : IRow x g (List.replicate n 0)
  r2 : IRow x gr (List.replicate n 0)
  b0 : x.cell? ⟨gb, 0, none⟩ = some (.slice (some ⟨g, 0, none⟩) n n)
  b1 : x.cell? ⟨gb, 1, none⟩ = some (.slice (some ⟨gr, 0, none⟩) n n)
def oBo_0 : Oper := { dst := some 22, op := .move (.tmp 9), type := 26, pos := "line.go:41", after := #[], guard := none }
def oBo_1 : Oper := { dst := some 23, op := .call { callee := .builtin .len, args := #[.tmp 22], argTypes := #[26] }, type := 3, pos := "line.go:41", after := #[⟨0, .data⟩], guard := none }
def oBo_2 : Oper := { dst := some 24, op := .makeSlice 51 (.tmp 23) (.tmp 23), type := 51, pos := "line.go:41", after := #[⟨1, .data⟩, ⟨1, .data⟩], guard := none }
def oBo_3 : Oper := { dst := some 25, op := .move (.tmp 9), type := 26, pos := "line.go:41", after := #[], guard := none }
def oBo_4 : Oper := { dst := some 26, op := .call { callee := .builtin .len, args := #[.tmp 25], argTypes := #[26] }, type := 3, pos := "line.go:41", after := #[⟨3, .data⟩], guard := none }
def oBo_5 : Oper := { dst := some 27, op := .makeSlice 51 (.tmp 26) (.tmp 26), type := 51, pos := "line.go:41", after := #[⟨4, .data⟩, ⟨4, .data⟩], guard := none }
def oBo_6 : Oper := { dst := some 28, op := .build 89 #[(0, .tmp 24), (1, .tmp 27)], type := 89, pos := "line.go:41", after := #[⟨2, .data⟩, ⟨5, .data⟩], guard := none }
def oBo_7 : Oper := { dst := some 11, op := .alloc 89, type := 0, pos := "line.go:41", after := #[], guard := none }
def oBo_8 : Oper := { dst := none, op := .store 89 (.tmp 11) (.tmp 28), type := 0, pos := "line.go:41", after := #[⟨7, .data⟩, ⟨6, .data⟩, ⟨0, .phase⟩, ⟨1, .phase⟩, ⟨2, .phase⟩, ⟨3, .phase⟩, ⟨4, .phase⟩, ⟨5, .phase⟩, ⟨6, .phase⟩, ⟨7, .phase⟩], guard := none }
def opsBo : List Oper := [oBo_0, oBo_1, oBo_2, oBo_3, oBo_4, oBo_5, oBo_6, oBo_7, oBo_8]
def sBo : List Nat := [22, 23, 24, 25, 26, 27, 28, 11]
def spBo (B : Nat) (ad : Option Addr) (n c : Nat) : List Sp2 := [sV (.slice ad n c), sV (.int .i64 (n : Int)), rowS B n, sV (.slice ad n c), sV (.int .i64 (n : Int)), rowS B n, sB2 2 5, boxS B]
structure EnvBo (a0 : Act) (w : World) (B : Nat) (ad : Option Addr) (n c : Nat) : Prop where
  h9 : a0.tmps[9]? = some (.slice ad n c)
  hn : n ≤ 1048576
  hB : B = w.heap.size
theorem yBo_0 {a0 : Act} {w : World} {B : Nat} {ad : Option Addr} {n c : Nat} (E : EnvBo a0 w B ad n c) {R : Exit → Act → World → Prop} {a : Act} {x : World} {val : Nat → Value} (q : Q w x) (oth : ∀ j, j ∉ sBo → a.tmps[j]? = a0.tmps[j]?) (dep : ∀ ed ∈ oBo_0.after, Region.binds .any ed = true → ∀ s' t', (spBo B ad n c)[ed.on]? = some s' → sBo[ed.on]? = some t' → a.tmps[t']? = some (val ed.on) ∧ s'.p (val ed.on) val x) : Yld Try.prog R oBo_0 a x 22 (fun v x' => (sV (.slice ad n c)).p v val x' ∧ (0 ∈ ([2, 5, 7] : List Nat) → x.heap.size ≤ blkV v ∧ blkV v < x'.heap.size)) := by
  exact yld_move ((oth 9 (by decide)).trans E.h9) ⟨rfl, fun h => absurd h (by decide)⟩
theorem yBo_1 {a0 : Act} {w : World} {B : Nat} {ad : Option Addr} {n c : Nat} (E : EnvBo a0 w B ad n c) {R : Exit → Act → World → Prop} {a : Act} {x : World} {val : Nat → Value} (q : Q w x) (oth : ∀ j, j ∉ sBo → a.tmps[j]? = a0.tmps[j]?) (dep : ∀ ed ∈ oBo_1.after, Region.binds .any ed = true → ∀ s' t', (spBo B ad n c)[ed.on]? = some s' → sBo[ed.on]? = some t' → a.tmps[t']? = some (val ed.on) ∧ s'.p (val ed.on) val x) : Yld Try.prog R oBo_1 a x 23 (fun v x' => (sV (.int .i64 (n : Int))).p v val x' ∧ (1 ∈ ([2, 5, 7] : List Nat) → x.heap.size ≤ blkV v ∧ blkV v < x'.heap.size)) := by
  obtain ⟨t0, f0⟩ := dep ⟨0, .data⟩ (by simp [oBo_1]) rfl _ 22 rfl rfl
  have f0 : val 0 = (.slice ad n c) := f0
  rw [f0] at t0
  exact yld_run (x' := x) rfl (by simp [oBo_1, execOp, resolve, invoke, builtin, t0, go_sem]) (Q.refl x) ⟨rfl, fun h => absurd h (by decide)⟩
theorem yBo_2 {a0 : Act} {w : World} {B : Nat} {ad : Option Addr} {n c : Nat} (E : EnvBo a0 w B ad n c) {R : Exit → Act → World → Prop} {a : Act} {x : World} {val : Nat → Value} (q : Q w x) (oth : ∀ j, j ∉ sBo → a.tmps[j]? = a0.tmps[j]?) (dep : ∀ ed ∈ oBo_2.after, Region.binds .any ed = true → ∀ s' t', (spBo B ad n c)[ed.on]? = some s' → sBo[ed.on]? = some t' → a.tmps[t']? = some (val ed.on) ∧ s'.p (val ed.on) val x) : Yld Try.prog R oBo_2 a x 24 (fun v x' => (rowS B n).p v val x' ∧ (2 ∈ ([2, 5, 7] : List Nat) → x.heap.size ≤ blkV v ∧ blkV v < x'.heap.size)) := by
  obtain ⟨t1, f1⟩ := dep ⟨1, .data⟩ (by simp [oBo_2]) rfl _ 23 rfl rfl
  have f1 : val 1 = (.int .i64 (n : Int)) := f1
  rw [f1] at t1
  obtain ⟨M, hM, hF⟩ := make_i n E.hn
  have hrun : (execOp a.eval oBo_2).run Try.prog x = .ok (.value (.slice (some ⟨x.heap.size, 0, none⟩) n n)) (x.alloc (.cells M 3)) := by
    have := tmp_eval t1
    simp [oBo_2, execOp, this, hM]
  have := q.1.size
  have := E.hB
  exact yld_run rfl hrun ((Q.refl x).cells _ _) ⟨⟨_, rfl, by omega, by simp, hF x⟩, fun _ => ⟨Nat.le_refl _, by simp [blkV]⟩⟩
theorem yBo_3 {a0 : Act} {w : World} {B : Nat} {ad : Option Addr} {n c : Nat} (E : EnvBo a0 w B ad n c) {R : Exit → Act → World → Prop} {a : Act} {x : World} {val : Nat → Value} (q : Q w x) (oth : ∀ j, j ∉ sBo → a.tmps[j]? = a0.tmps[j]?) (dep : ∀ ed ∈ oBo_3.after, Region.binds .any ed = true → ∀ s' t', (spBo B ad n c)[ed.on]? = some s' → sBo[ed.on]? = some t' → a.tmps[t']? = some (val ed.on) ∧ s'.p (val ed.on) val x) : Yld Try.prog R oBo_3 a x 25 (fun v x' => (sV (.slice ad n c)).p v val x' ∧ (3 ∈ ([2, 5, 7] : List Nat) → x.heap.size ≤ blkV v ∧ blkV v < x'.heap.size)) := by
  exact yld_move ((oth 9 (by decide)).trans E.h9) ⟨rfl, fun h => absurd h (by decide)⟩
theorem yBo_4 {a0 : Act} {w : World} {B : Nat} {ad : Option Addr} {n c : Nat} (E : EnvBo a0 w B ad n c) {R : Exit → Act → World → Prop} {a : Act} {x : World} {val : Nat → Value} (q : Q w x) (oth : ∀ j, j ∉ sBo → a.tmps[j]? = a0.tmps[j]?) (dep : ∀ ed ∈ oBo_4.after, Region.binds .any ed = true → ∀ s' t', (spBo B ad n c)[ed.on]? = some s' → sBo[ed.on]? = some t' → a.tmps[t']? = some (val ed.on) ∧ s'.p (val ed.on) val x) : Yld Try.prog R oBo_4 a x 26 (fun v x' => (sV (.int .i64 (n : Int))).p v val x' ∧ (4 ∈ ([2, 5, 7] : List Nat) → x.heap.size ≤ blkV v ∧ blkV v < x'.heap.size)) := by
  obtain ⟨t3, f3⟩ := dep ⟨3, .data⟩ (by simp [oBo_4]) rfl _ 25 rfl rfl
  have f3 : val 3 = (.slice ad n c) := f3
  rw [f3] at t3
  exact yld_run (x' := x) rfl (by simp [oBo_4, execOp, resolve, invoke, builtin, t3, go_sem]) (Q.refl x) ⟨rfl, fun h => absurd h (by decide)⟩
theorem yBo_5 {a0 : Act} {w : World} {B : Nat} {ad : Option Addr} {n c : Nat} (E : EnvBo a0 w B ad n c) {R : Exit → Act → World → Prop} {a : Act} {x : World} {val : Nat → Value} (q : Q w x) (oth : ∀ j, j ∉ sBo → a.tmps[j]? = a0.tmps[j]?) (dep : ∀ ed ∈ oBo_5.after, Region.binds .any ed = true → ∀ s' t', (spBo B ad n c)[ed.on]? = some s' → sBo[ed.on]? = some t' → a.tmps[t']? = some (val ed.on) ∧ s'.p (val ed.on) val x) : Yld Try.prog R oBo_5 a x 27 (fun v x' => (rowS B n).p v val x' ∧ (5 ∈ ([2, 5, 7] : List Nat) → x.heap.size ≤ blkV v ∧ blkV v < x'.heap.size)) := by
  obtain ⟨t4, f4⟩ := dep ⟨4, .data⟩ (by simp [oBo_5]) rfl _ 26 rfl rfl
  have f4 : val 4 = (.int .i64 (n : Int)) := f4
  rw [f4] at t4
  obtain ⟨M, hM, hF⟩ := make_i n E.hn
  have hrun : (execOp a.eval oBo_5).run Try.prog x = .ok (.value (.slice (some ⟨x.heap.size, 0, none⟩) n n)) (x.alloc (.cells M 3)) := by
    have := tmp_eval t4
    simp [oBo_5, execOp, this, hM]
  have := q.1.size
  have := E.hB
  exact yld_run rfl hrun ((Q.refl x).cells _ _) ⟨⟨_, rfl, by omega, by simp, hF x⟩, fun _ => ⟨Nat.le_refl _, by simp [blkV]⟩⟩
theorem yBo_6 {a0 : Act} {w : World} {B : Nat} {ad : Option Addr} {n c : Nat} (E : EnvBo a0 w B ad n c) {R : Exit → Act → World → Prop} {a : Act} {x : World} {val : Nat → Value} (q : Q w x) (oth : ∀ j, j ∉ sBo → a.tmps[j]? = a0.tmps[j]?) (dep : ∀ ed ∈ oBo_6.after, Region.binds .any ed = true → ∀ s' t', (spBo B ad n c)[ed.on]? = some s' → sBo[ed.on]? = some t' → a.tmps[t']? = some (val ed.on) ∧ s'.p (val ed.on) val x) : Yld Try.prog R oBo_6 a x 28 (fun v x' => (sB2 2 5).p v val x' ∧ (6 ∈ ([2, 5, 7] : List Nat) → x.heap.size ≤ blkV v ∧ blkV v < x'.heap.size)) := by
  obtain ⟨t2, f2⟩ := dep ⟨2, .data⟩ (by simp [oBo_6]) rfl _ 24 rfl rfl
  obtain ⟨t5, f5⟩ := dep ⟨5, .data⟩ (by simp [oBo_6]) rfl _ 27 rfl rfl
  obtain ⟨g, e2, _⟩ := f2
  obtain ⟨gr, e5, _⟩ := f5
  have t2' := t2
  have t5' := t5
  rw [e2] at t2'
  rw [e5] at t5'
  exact yld_run (x' := x) (v := .agg #[val 2, val 5]) rfl (by rw [e2, e5]; simp [oBo_6, execOp, t2', t5', go_sem]) (Q.refl x) ⟨rfl, fun h => absurd h (by decide)⟩
theorem yBo_7 {a0 : Act} {w : World} {B : Nat} {ad : Option Addr} {n c : Nat} (E : EnvBo a0 w B ad n c) {R : Exit → Act → World → Prop} {a : Act} {x : World} {val : Nat → Value} (q : Q w x) (oth : ∀ j, j ∉ sBo → a.tmps[j]? = a0.tmps[j]?) (dep : ∀ ed ∈ oBo_7.after, Region.binds .any ed = true → ∀ s' t', (spBo B ad n c)[ed.on]? = some s' → sBo[ed.on]? = some t' → a.tmps[t']? = some (val ed.on) ∧ s'.p (val ed.on) val x) : Yld Try.prog R oBo_7 a x 11 (fun v x' => (boxS B).p v val x' ∧ (7 ∈ ([2, 5, 7] : List Nat) → x.heap.size ≤ blkV v ∧ blkV v < x'.heap.size)) := by
  have := q.1.size
  have := E.hB
  exact yld_run (x' := x.alloc (.cells #[.slice none 0 0, .slice none 0 0] 89)) rfl (by simp [oBo_7, execOp, go_sem]) ((Q.refl x).cells _ _) ⟨⟨x.heap.size, rfl, by omega, by simp, by simp [go_sem], by simp [go_sem], fun j => by simp [go_sem]⟩, fun _ => ⟨Nat.le_refl _, by simp [blkV]⟩⟩
theorem hopBo {a0 : Act} {w : World} {B : Nat} {ad : Option Addr} {n c : Nat} (E : EnvBo a0 w B ad n c) {R : Exit → Act → World → Prop} : ∀ (i t : Nat) (o : Oper) (sp : Sp2) (a : Act) (x : World) (val : Nat → Value), sBo[i]? = some t → opsBo[i]? = some o → (spBo B ad n c)[i]? = some sp → Q w x → (∀ j, j ∉ sBo → a.tmps[j]? = a0.tmps[j]?) → (∀ ed ∈ o.after, Region.binds .any ed = true → ∀ s' t', (spBo B ad n c)[ed.on]? = some s' → sBo[ed.on]? = some t' → a.tmps[t']? = some (val ed.on) ∧ s'.p (val ed.on) val x) → Yld Try.prog R o a x t (fun v x' => sp.p v val x' ∧ (i ∈ ([2, 5, 7] : List Nat) → x.heap.size ≤ blkV v ∧ blkV v < x'.heap.size))
  | 0, t, o, sp, a, x, val, ht, ho, hs, q, oth, dep => by
    have e1 : oBo_0 = o := Option.some.inj ho
    have e2 : 22 = t := Option.some.inj ht
    have e3 := Option.some.inj hs
    subst e1 e2 e3
    exact yBo_0 E q oth dep
  | 1, t, o, sp, a, x, val, ht, ho, hs, q, oth, dep => by
    have e1 : oBo_1 = o := Option.some.inj ho
    have e2 : 23 = t := Option.some.inj ht
    have e3 := Option.some.inj hs
    subst e1 e2 e3
    exact yBo_1 E q oth dep
  | 2, t, o, sp, a, x, val, ht, ho, hs, q, oth, dep => by
    have e1 : oBo_2 = o := Option.some.inj ho
    have e2 : 24 = t := Option.some.inj ht
    have e3 := Option.some.inj hs
    subst e1 e2 e3
    exact yBo_2 E q oth dep
  | 3, t, o, sp, a, x, val, ht, ho, hs, q, oth, dep => by
    have e1 : oBo_3 = o := Option.some.inj ho
    have e2 : 25 = t := Option.some.inj ht
    have e3 := Option.some.inj hs
    subst e1 e2 e3
    exact yBo_3 E q oth dep
  | 4, t, o, sp, a, x, val, ht, ho, hs, q, oth, dep => by
    have e1 : oBo_4 = o := Option.some.inj ho
    have e2 : 26 = t := Option.some.inj ht
    have e3 := Option.some.inj hs
    subst e1 e2 e3
    exact yBo_4 E q oth dep
  | 5, t, o, sp, a, x, val, ht, ho, hs, q, oth, dep => by
    have e1 : oBo_5 = o := Option.some.inj ho
    have e2 : 27 = t := Option.some.inj ht
    have e3 := Option.some.inj hs
    subst e1 e2 e3
    exact yBo_5 E q oth dep
  | 6, t, o, sp, a, x, val, ht, ho, hs, q, oth, dep => by
    have e1 : oBo_6 = o := Option.some.inj ho
    have e2 : 28 = t := Option.some.inj ht
    have e3 := Option.some.inj hs
    subst e1 e2 e3
    exact yBo_6 E q oth dep
  | 7, t, o, sp, a, x, val, ht, ho, hs, q, oth, dep => by
    have e1 : oBo_7 = o := Option.some.inj ho
    have e2 : 11 = t := Option.some.inj ht
    have e3 := Option.some.inj hs
    subst e1 e2 e3
    exact yBo_7 E q oth dep
  | i + 8, t, o, sp, a, x, val, ht, ho, hs, q, oth, dep => by cases ht
set_option maxHeartbeats 1000000 in
theorem regionBo {id : Nat} {l : List Oper} {R : Exit → Act → World → Prop} {a0 : Act} {w : World} {B : Nat} {ad : Option Addr} {n c : Nat} (hl : l = opsBo) (hsz : a0.tmps.size = 50) (E : EnvBo a0 w B ad n c)
    (hR : ∀ x g gr gb, Bld2 B n g gr gb w x → R .normal (putAll a0 [(22, .slice ad n c), (23, .int .i64 (n : Int)), (24, .slice (some ⟨g, 0, none⟩) n n), (25, .slice ad n c), (26, .int .i64 (n : Int)), (27, .slice (some ⟨gr, 0, none⟩) n n), (28, .agg #[.slice (some ⟨g, 0, none⟩) n n, .slice (some ⟨gr, 0, none⟩) n n]), (11, .pointer (some ⟨gb, 0, none⟩))]) x) :
    (Code.region id l.toArray true).wp Try.prog R a0 w := by
  subst hl
  refine wp_region_newP 8 sBo (spBo B ad n c) [[], [], [], [], [], [], [2, 5], []] [2, 5, 7] (by kernel_rfl) (by decide +kernel) (by decide +kernel) rfl (by decide) (fun t ht => ?_) (hopBo E) (by decide) (fun a x val q size defers other facts apart => ?_)
  · rw [hsz]
    revert t
    decide
  · obtain ⟨t0, f0⟩ := facts 0 22 _ rfl rfl
    have f0 : val 0 = (.slice ad n c) := f0
    rw [f0] at t0
    obtain ⟨t1, f1⟩ := facts 1 23 _ rfl rfl
    have f1 : val 1 = (.int .i64 (n : Int)) := f1
    rw [f1] at t1
    obtain ⟨t2, f2⟩ := facts 2 24 _ rfl rfl
    obtain ⟨t3, f3⟩ := facts 3 25 _ rfl rfl
    have f3 : val 3 = (.slice ad n c) := f3
    rw [f3] at t3
    obtain ⟨t4, f4⟩ := facts 4 26 _ rfl rfl
    have f4 : val 4 = (.int .i64 (n : Int)) := f4
    rw [f4] at t4
    obtain ⟨t5, f5⟩ := facts 5 27 _ rfl rfl
    obtain ⟨t6, f6⟩ := facts 6 28 _ rfl rfl
    obtain ⟨t7, f7⟩ := facts 7 11 _ rfl rfl
    obtain ⟨g, e2, a1, a2, a3⟩ := f2
    obtain ⟨gr, e5, b1, b2, b3⟩ := f5
    obtain ⟨gb, e7, c1, c2, c3, c4, c5⟩ := f7
    have p25 := apart 2 5 (by simp) (by simp) (by decide)
    have p27 := apart 2 7 (by simp) (by simp) (by decide)
    have p57 := apart 5 7 (by simp) (by simp) (by decide)
    rw [e2, e5] at p25
    rw [e2, e7] at p27
    rw [e5, e7] at p57
    have f6 : val 6 = .agg #[val 2, val 5] := f6
    rw [f6, e2, e5] at t6
    rw [e2] at t2
    rw [e5] at t5
    rw [e7] at t7
    have hA := act_puts (a := a) (a0 := a0) [(22, .slice ad n c), (23, .int .i64 (n : Int)), (24, .slice (some ⟨g, 0, none⟩) n n), (25, .slice ad n c), (26, .int .i64 (n : Int)), (27, .slice (some ⟨gr, 0, none⟩) n n), (28, .agg #[.slice (some ⟨g, 0, none⟩) n n, .slice (some ⟨gr, 0, none⟩) n n]), (11, .pointer (some ⟨gb, 0, none⟩))] (show ([22, 23, 24, 25, 26, 27, 28, 11] : List Nat).Nodup by decide) size defers (fun j hj => other j (by simpa [sBo] using hj)) (fun r hr => ?_)
    · refine ⟨?_⟩
      refine post_skip (x' := (x.setCell ⟨gb, 0, none⟩ (.slice (some ⟨g, 0, none⟩) n n)).setCell ⟨gb, 1, none⟩ (.slice (some ⟨gr, 0, none⟩) n n)) rfl (by simp [oBo_8, execOp, t6, t7, go_sem, c3, c4, c5]) ?_
      show R .normal a _
      rw [hA]
      have hl : w.heap.size ≤ gb := by rw [← E.hB]; exact c1
      have k0 : (x.setCell ⟨gb, 0, none⟩ (.slice (some ⟨g, 0, none⟩) n n)).cell? ⟨gb, 1, none⟩ = some (.slice none 0 0) := (World.cell?_setCell_other _ _ _ _ (fun e => by injection e with _ e; cases e)).trans c4
      exact hR _ g gr gb ⟨(q.set hl _).set hl _, a1, b1, c1, p25, p27, p57, (a3.other (p := ⟨gb, 0, none⟩) (fun e => p27 e.symm) _).other (p := ⟨gb, 1, none⟩) (fun e => p27 e.symm) _, (b3.other (p := ⟨gb, 0, none⟩) (fun e => p57 e.symm) _).other (p := ⟨gb, 1, none⟩) (fun e => p57 e.symm) _, (World.cell?_setCell_other _ _ _ _ (fun e => by injection e with _ e; cases e)).trans (World.cell?_setCell_same _ _ _ c3), World.cell?_setCell_same _ _ _ k0⟩
    · simp only [List.mem_cons, List.not_mem_nil, or_false] at hr
      rcases hr with rfl | rfl | rfl | rfl | rfl | rfl | rfl | rfl
      · exact t0
      · exact t1
      · exact t2
      · exact t3
      · exact t4
      · exact t5
      · exact t6
      · exact t7
set_option maxRecDepth 100000 in
theorem normBo {t0 t1 t2 t3 t4 t5 t6 t7 t8 t9 t10 t11 t12 t13 t14 t15 t16 t17 t18 t19 t20 t21 t22 t23 t24 t25 t26 t27 t28 t29 t30 t31 t32 t33 t34 t35 t36 t37 t38 t39 t40 t41 t42 t43 t44 t45 t46 t47 t48 t49 v22 v23 v24 v25 v26 v27 v28 v11 : Value} {d : List Deferred} : putAll ⟨#[t0, t1, t2, t3, t4, t5, t6, t7, t8, t9, t10, t11, t12, t13, t14, t15, t16, t17, t18, t19, t20, t21, t22, t23, t24, t25, t26, t27, t28, t29, t30, t31, t32, t33, t34, t35, t36, t37, t38, t39, t40, t41, t42, t43, t44, t45, t46, t47, t48, t49], d⟩ [(22, v22), (23, v23), (24, v24), (25, v25), (26, v26), (27, v27), (28, v28), (11, v11)] = ⟨#[t0, t1, t2, t3, t4, t5, t6, t7, t8, t9, t10, v11, t12, t13, t14, t15, t16, t17, t18, t19, t20, t21, v22, v23, v24, v25, v26, v27, v28, t29, t30, t31, t32, t33, t34, t35, t36, t37, t38, t39, t40, t41, t42, t43, t44, t45, t46, t47, t48, t49], d⟩ := by
  kernel_rfl
end Go.Proofs.Ytdbbpmadkhedlaa
/- blendOf: the taps of a place as two lists. -/
namespace Go.Proofs.Ytdbbpmadkhedlaa
open Go.RowKit
set_option linter.unusedVariables false
set_option linter.unusedSimpArgs false

/-- What blendOf holds while it goes through the taps. -/
structure Bl3 (w1 wr : World) (L : List (Int × Int)) (n g gr gb i : Nat) : Prop where
  q : Q w1 wr
  r1 : IRow wr g (tabI n (partF (fun k => (L.getD k (0, 0)).1) i))
  r2 : IRow wr gr (tabI n (partF (fun k => (L.getD k (0, 0)).2) i))
  b0 : wr.cell? ⟨gb, 0, none⟩ = some (.slice (some ⟨g, 0, none⟩) n n)
  b1 : wr.cell? ⟨gb, 1, none⟩ = some (.slice (some ⟨gr, 0, none⟩) n n)
theorem tabI_map {L : List (Int × Int)} {n : Nat} (hn : n = L.length) (f : Int × Int → Int) (h0 : f (0, 0) = 0) : tabI n (partF (fun k => f (L.getD k (0, 0))) n) = L.map f := by
  apply List.ext_getElem?
  intro i
  by_cases hi : i < n
  · rw [tabI_at hi, List.getElem?_map]
    unfold partF
    rw [if_pos hi]
    show some (f (L.getD i (0, 0))) = _
    rw [List.getD_eq_getElem?_getD, List.getElem?_eq_getElem (by omega)]
    rfl
  · rw [List.getElem?_eq_none (by rw [tabI_len]; omega), List.getElem?_eq_none (by rw [List.length_map]; omega)]
/-- What is read while two numbers are stored. -/
structure Dcl (gb g gr n tb : Nat) (p q : Int) (y : World) : Prop where
  a : y.cell? ⟨gb, 0, none⟩ = some (.slice (some ⟨g, 0, none⟩) n n)
  b : y.cell? ⟨gb, 1, none⟩ = some (.slice (some ⟨gr, 0, none⟩) n n)
  c : y.cell? ⟨tb, 0, none⟩ = some (.int .i64 p)
  d : y.cell? ⟨tb, 1, none⟩ = some (.int .i64 q)
theorem Dcl.set {gb g gr n tb : Nat} {p q : Int} {y : World} (h : Dcl gb g gr n tb p q y) {ad : Addr} (h1 : ad.block ≠ gb) (h2 : ad.block ≠ tb) (v : Value) : Dcl gb g gr n tb p q (y.setCell ad v) :=
  ⟨(World.cell?_setCell_other _ _ _ _ (fun e => h1 (by rw [e]))).trans h.a, (World.cell?_setCell_other _ _ _ _ (fun e => h1 (by rw [e]))).trans h.b, (World.cell?_setCell_other _ _ _ _ (fun e => h2 (by rw [e]))).trans h.c, (World.cell?_setCell_other _ _ _ _ (fun e => h2 (by rw [e]))).trans h.d⟩
theorem Bl3.step {w1 wr wa : World} {L : List (Int × Int)} {n g gr gb i : Nat} {p x : Int} (h : Bl3 w1 wr L n g gr gb i) (qa : Q wr wa) (hi : i < n) (hg : L.getD i (0, 0) = (p, x)) (l1 : w1.heap.size ≤ g) (l2 : w1.heap.size ≤ gr) (n12 : g ≠ gr) (n13 : g ≠ gb) (n23 : gr ≠ gb) :
    Bl3 w1 ((wa.setCell ⟨g, i, none⟩ (.int .i64 p)).setCell ⟨gr, i, none⟩ (.int .i64 x)) L n g gr gb (i + 1) := by
  refine ⟨((h.q.trans qa).set l1 _).set l2 _, ?_, ?_, ?_, ?_⟩
  · have := ((h.r1.next qa).set (i := i) (by rw [tabI_len]; exact hi) p).other (p := ⟨gr, i, none⟩) (fun e => n12 e.symm) (.int .i64 x)
    rw [tabI_set (g := partF (fun k => (L.getD k (0, 0)).1) (i + 1)) (by rw [← partF_new]; simp only [hg]) (partF_old _ _)] at this
    exact this
  · have := ((h.r2.next qa).other (p := ⟨g, i, none⟩) n12 (.int .i64 p)).set (i := i) (by rw [tabI_len]; exact hi) x
    rw [tabI_set (g := partF (fun k => (L.getD k (0, 0)).2) (i + 1)) (by rw [← partF_new]; simp only [hg]) (partF_old _ _)] at this
    exact this
  · rw [World.cell?_setCell_other _ _ _ _ (fun e => n23 (by injection e)), World.cell?_setCell_other _ _ _ _ (fun e => n13 (by injection e))]; exact qa.cell h.b0
  · rw [World.cell?_setCell_other _ _ _ _ (fun e => n23 (by injection e)), World.cell?_setCell_other _ _ _ _ (fun e => n13 (by injection e))]; exact qa.cell h.b1
/-- Taps as two rows that the call has made. -/
def BlW (w x : World) (v : Value) (L : List (Int × Int)) : Prop := ∃ g1 g2, v = .agg #[.slice (some ⟨g1, 0, none⟩) L.length L.length, .slice (some ⟨g2, 0, none⟩) L.length L.length] ∧ w.heap.size ≤ g1 ∧ w.heap.size ≤ g2 ∧ IRow x g1 (L.map Prod.fst) ∧ IRow x g2 (L.map Prod.snd)
set_option maxHeartbeats 4000000 in
set_option maxRecDepth 100000 in
theorem blendOf_any (kind F T i : Int) (w : World) :
    Calls Try.prog 46 #[.int .i64 kind, .int .i64 F, .int .i64 T, .int .i64 i] w fun e w' => ∃ v, e = .returned v ∧ BlW w w' v (tpA kind F T i) ∧ Q w w' := by
  have HT : Hid (∀ W : World, Calls Try.prog 16 #[.int .i64 kind, .int .i64 F, .int .i64 T, .int .i64 i] W fun e w' => ∃ v n, e = .returned (.tuple #[v, .int .i64 (tapE kind F T i)]) ∧ Tl W w' v (tpA kind F T i) n) := fun W => taps_all kind F T i W
  have hlen := tpA_len kind F T i
  generalize tpA kind F T i = L at *
  generalize tapE kind F T i = E at *
  go_enter Try.func46, Try.ntmps46
  go_wp2_with fail
  refine (HT.out _).mono ?_
  rintro e w1 ⟨v, n, rfl, hTl⟩
  obtain ⟨ad, c, rfl⟩ := hTl.form
  have HQ1 : Hid (Q w w1) := ((Q.refl w).cells _ _).trans hTl.q
  have HR0 : Hid (w1.cell? ⟨w.heap.size, 0, none⟩ = some (.slice none 0 0) ∧ w1.cell? ⟨w.heap.size, 1, none⟩ = some (.slice none 0 0) ∧ (∀ j, w1.frozen? ⟨w.heap.size, j, none⟩ = false) ∧ w.heap.size < w1.heap.size) := by
    refine ⟨hTl.q.cell (by simp [go_sem]), hTl.q.cell (by simp [go_sem]), fun j => by rw [hTl.q.2]; simp [go_sem], ?_⟩
    have := hTl.q.1.size
    simp at this
    omega
  have HS : Hid (TSl w1 (.slice ad n c) L ∧ n = L.length) := ⟨hTl.tsl, hTl.len⟩
  have hn62 : n ≤ 62 := by rw [hTl.len]; exact hlen
  clear hTl HT
  go_wp2_with fail
  refine regionBo (B := w1.heap.size) (ad := ad) (n := n) (c := c) rfl rfl ⟨rfl, by omega, rfl⟩ ?_
  intro w2 g gr gb HB2
  rw [normBo]
  have HA : Hid (w1.heap.size ≤ g ∧ w1.heap.size ≤ gr ∧ w1.heap.size ≤ gb ∧ g ≠ gr ∧ g ≠ gb ∧ gr ≠ gb) := ⟨HB2.l1, HB2.l2, HB2.l3, HB2.n12, HB2.n13, HB2.n23⟩
  have HD : Hid (Bl3 w1 w2 L n g gr gb 0) := by
    have e : ∀ f : Nat → Int, List.replicate n (0 : Int) = tabI n (partF f 0) := fun f => by rw [tabI_zero]; exact tabI_congr (fun i _ => by simp [partF])
    exact ⟨HB2.q, by rw [← e]; exact HB2.r1, by rw [← e]; exact HB2.r2, HB2.b0, HB2.b1⟩
  clear HB2
  go_wp2_with fail
  go_loopg [12, 13, 31] n (fun gh s12 s13 s31 wr => ∃ j : Nat, s31 = .int .i64 (j : Int) ∧ j ≤ n ∧ gh = n - j ∧ Hid (Bl3 w1 wr L n g gr gb j))
  case atStart => exact ⟨0, rfl, Nat.zero_le _, rfl, HD⟩
  case round =>
    clear HD
    obtain ⟨j, rfl, hj, rfl, HD⟩ := hrel
    by_cases hlt : j < n
    · have hltz : (j : Int) < (n : Int) := by omega
      obtain ⟨e, he⟩ : ∃ e, L[j]? = some e := ⟨_, List.getElem?_eq_getElem (by rw [← HS.out.2]; exact hlt)⟩
      obtain ⟨p, x⟩ := e
      have hg : L.getD j (0, 0) = (p, x) := by rw [List.getD_eq_getElem?_getD, he]; rfl
      obtain ⟨g1, o1, d1, hs1, hI1⟩ := HS.out.1.some (by have := HS.out.2; omega)
      rw [← HS.out.2] at hs1
      injection hs1 with e1 e2 e3
      subst e1 e3
      obtain ⟨c1, c2⟩ := hI1 j _ he
      have c1 := HD.out.q.cell c1
      have c2 := HD.out.q.cell c2
      simp only at c1 c2
      have y0 := HD.out.b0
      have y1 := HD.out.b1
      have z1 := HD.out.r1.cell j _ (tabI_at hlt)
      have fz1 := HD.out.r1.free j
      have z2 := HD.out.r2.cell j _ (tabI_at hlt)
      have fz2 := HD.out.r2.free j
      obtain ⟨u1, hu1⟩ : ∃ u, partF (fun k => (L.getD k (0, 0)).1) j j = u := ⟨_, rfl⟩
      obtain ⟨u2, hu2⟩ : ∃ u, partF (fun k => (L.getD k (0, 0)).2) j j = u := ⟨_, rfl⟩
      rw [hu1] at z1
      rw [hu2] at z2
      have HG : Hid (L.getD j (0, 0) = (p, x)) := hg
      clear he hg hI1 e2 hu1 hu2
      obtain ⟨wa, hwa⟩ : ∃ wa, wr.alloc (.cells #[.int .i64 p, .int .i64 x] 56) = wa := ⟨_, rfl⟩
      go_wp2_with fail
      have qa : Q wr wa := by rw [← hwa]; exact (Q.refl wr).cells _ _
      have t0 : wa.cell? ⟨wr.heap.size, 0, none⟩ = some (.int .i64 p) := by rw [← hwa]; simp [go_sem]
      have t1 : wa.cell? ⟨wr.heap.size, 1, none⟩ = some (.int .i64 x) := by rw [← hwa]; simp [go_sem]
      have D0 : Dcl gb g gr n wr.heap.size p x wa.drew := ⟨qa.cell y0, qa.cell y1, t0, t1⟩
      have n0 := cw_some D0
      have f0 := fun m : CW (Dcl gb g gr n wr.heap.size p x) => m.h.a
      have f1 := fun m : CW (Dcl gb g gr n wr.heap.size p x) => m.h.b
      have f2 := fun m : CW (Dcl gb g gr n wr.heap.size p x) => m.h.c
      have f3 := fun m : CW (Dcl gb g gr n wr.heap.size p x) => m.h.d
      have hsz : wr.heap.size = wr.heap.size := rfl
      have gl : g < wr.heap.size := World.block_lt_of_cell? _ _ z1
      have grl : gr < wr.heap.size := World.block_lt_of_cell? _ _ z2
      have HS9 : Hid _ := HD.out.step (wa := wa.drew) (qa.trans (Q.refl wa).drew) hlt HG.out HA.out.1 HA.out.2.1 HA.out.2.2.2.1 HA.out.2.2.2.2.1 HA.out.2.2.2.2.2
      have z1a : wa.drew.cell? ⟨g, j, none⟩ = some (.int .i64 u1) := (qa.trans (Q.refl wa).drew).cell z1
      have z2a : wa.drew.cell? ⟨gr, j, none⟩ = some (.int .i64 u2) := (qa.trans (Q.refl wa).drew).cell z2
      have fz1a : wa.drew.frozen? ⟨g, j, none⟩ = false := by rw [(qa.trans (Q.refl wa).drew).2]; exact fz1
      have fz2a : wa.drew.frozen? ⟨gr, j, none⟩ = false := by rw [(qa.trans (Q.refl wa).drew).2]; exact fz2
      have D1 : Dcl gb g gr n wr.heap.size p x (wa.drew.setCell ⟨g, j, none⟩ (.int .i64 p)) := D0.set (ad := ⟨g, j, none⟩) HA.out.2.2.2.2.1 (by show g ≠ wr.heap.size; omega) _
      have z2b : (wa.drew.setCell ⟨g, j, none⟩ (.int .i64 p)).cell? ⟨gr, j, none⟩ = some (.int .i64 u2) := (World.cell?_setCell_other _ _ _ _ (fun e => HA.out.2.2.2.1 (by injection e))).trans z2a
      have fz2b : (wa.drew.setCell ⟨g, j, none⟩ (.int .i64 p)).frozen? ⟨gr, j, none⟩ = false := by rw [World.frozen?_setCell]; exact fz2a
      refine wp_region_mkP [0, 1, 2, 3, 4, 5, 6, 7, 8, 9] [[10, 11, 12, 13]] 4 _ (Dcl gb g gr n wr.heap.size p x) (by kernel_rfl) (by kernel_rfl) rfl (by kernel_rfl) D0 ?_
      simp only [List.filterMap_cons, List.filterMap_nil, List.getElem?_cons_zero, List.getElem?_cons_succ]
      repeat (first | go_big_quiet_step (fail) | quiet_step (fail))
      refine wpQuiet_nil ?_
      clear f0 f1 f2 f3 n0
      refine treeA_run 10 (by kernel_rfl) rfl (v := .pointer (some ⟨g, j, none⟩)) (x' := wa.drew) (run_ixk (Lw := n) (cap := n) (by kernel_rfl) (by kernel_rfl) hlt) (Or.inr D0) ?_
      refine treeA_skip 11 (by kernel_rfl) rfl (x' := wa.drew.setCell ⟨g, j, none⟩ (.int .i64 p)) (run_sti (i := j) (by kernel_rfl) (by kernel_rfl) z1a fz1a) (Or.inr D1) ?_
      refine treeA_run 12 (by kernel_rfl) rfl (v := .pointer (some ⟨gr, j, none⟩)) (x' := wa.drew.setCell ⟨g, j, none⟩ (.int .i64 p)) (run_ixk (Lw := n) (cap := n) (by kernel_rfl) (by kernel_rfl) hlt) (Or.inr D1) ?_
      refine treeA_skip 13 (by kernel_rfl) rfl (x' := (wa.drew.setCell ⟨g, j, none⟩ (.int .i64 p)).setCell ⟨gr, j, none⟩ (.int .i64 x)) (run_sti (i := j) (by kernel_rfl) (by kernel_rfl) z2b fz2b) (Or.inl (by kernel_rfl)) ?_
      refine tree_nil ?_
      clear D0 D1 z1 z2 z1a z2a fz1 fz2 fz1a fz2a z2b fz2b t0 t1 qa y0 y1 c1 c2 hwa HD
      generalize (wa.drew.setCell ⟨g, j, none⟩ (.int .i64 p)).setCell ⟨gr, j, none⟩ (.int .i64 x) = w9 at HS9 ⊢
      go_wp2_with fail
      go_roundg (n - (j + 1))
      case measure => go_light; omega
      case rel => go_light; exact ⟨j + 1, by simp, by omega, rfl, HS9⟩
    · have hge : ¬ (j : Int) < (n : Int) := by omega
      obtain rfl : j = n := by omega
      have y0 := HD.out.b0
      have y1 := HD.out.b1
      have o0 := HD.out.q.cell HR0.out.1
      have o1 := HD.out.q.cell HR0.out.2.1
      have fo : ∀ k, wr.frozen? ⟨w.heap.size, k, none⟩ = false := fun k => by rw [HD.out.q.2]; exact HR0.out.2.2.1 k
      have fo0 := fo 0
      have fo1 := fo 1
      have HW : Hid (BlW w ((wr.setCell ⟨w.heap.size, 0, none⟩ (.slice (some ⟨g, 0, none⟩) j j)).setCell ⟨w.heap.size, 1, none⟩ (.slice (some ⟨gr, 0, none⟩) j j)) (.agg #[.slice (some ⟨g, 0, none⟩) j j, .slice (some ⟨gr, 0, none⟩) j j]) L) := by
        have hgw : w.heap.size ≠ g := by have := HA.out.1; have := HR0.out.2.2.2; omega
        have hgrw : w.heap.size ≠ gr := by have := HA.out.2.1; have := HR0.out.2.2.2; omega
        have r1 := (HD.out.r1.other (p := ⟨w.heap.size, 0, none⟩) hgw (.slice (some ⟨g, 0, none⟩) j j)).other (p := ⟨w.heap.size, 1, none⟩) hgw (.slice (some ⟨gr, 0, none⟩) j j)
        have r2 := (HD.out.r2.other (p := ⟨w.heap.size, 0, none⟩) hgrw (.slice (some ⟨g, 0, none⟩) j j)).other (p := ⟨w.heap.size, 1, none⟩) hgrw (.slice (some ⟨gr, 0, none⟩) j j)
        rw [tabI_map HS.out.2 Prod.fst rfl] at r1
        rw [tabI_map HS.out.2 Prod.snd rfl] at r2
        refine ⟨g, gr, ?_, ?_, ?_, r1, r2⟩
        · rw [← HS.out.2]
        · have := HA.out.1; have := HR0.out.2.2.2; omega
        · have := HA.out.2.1; have := HR0.out.2.2.2; omega
      have HQ : Hid (Q w ((wr.setCell ⟨w.heap.size, 0, none⟩ (.slice (some ⟨g, 0, none⟩) j j)).setCell ⟨w.heap.size, 1, none⟩ (.slice (some ⟨gr, 0, none⟩) j j))) := ((HQ1.out.trans HD.out.q).set (Nat.le_refl _) _).set (Nat.le_refl _) _
      clear fo HD
      have v0 : ((wr.setCell ⟨w.heap.size, 0, none⟩ (.slice (some ⟨g, 0, none⟩) j j)).setCell ⟨w.heap.size, 1, none⟩ (.slice (some ⟨gr, 0, none⟩) j j)).cell? ⟨w.heap.size, 0, none⟩ = some (.slice (some ⟨g, 0, none⟩) j j) := (World.cell?_setCell_other _ _ _ _ (fun e => by injection e with _ e; cases e)).trans (World.cell?_setCell_same _ _ _ o0)
      have v1 : ((wr.setCell ⟨w.heap.size, 0, none⟩ (.slice (some ⟨g, 0, none⟩) j j)).setCell ⟨w.heap.size, 1, none⟩ (.slice (some ⟨gr, 0, none⟩) j j)).cell? ⟨w.heap.size, 1, none⟩ = some (.slice (some ⟨gr, 0, none⟩) j j) := World.cell?_setCell_same _ _ _ ((World.cell?_setCell_other _ _ _ _ (fun e => by injection e with _ e; cases e)).trans o1)
      go_wp2_with fail
      generalize (wr.setCell ⟨w.heap.size, 0, none⟩ (.slice (some ⟨g, 0, none⟩) j j)).setCell ⟨w.heap.size, 1, none⟩ (.slice (some ⟨gr, 0, none⟩) j j) = w9 at HW HQ v0 v1 ⊢
      exact bodyPost_ret (v := .agg #[.slice (some ⟨g, 0, none⟩) j j, .slice (some ⟨gr, 0, none⟩) j j]) (by simp [results, Try.results46, go_sem, v0, v1]) rfl ⟨_, rfl, HW.out, HQ.out⟩
end Go.Proofs.Ytdbbpmadkhedlaa
/- lineOf: a line of taps. -/
namespace Go.Proofs.Ytdbbpmadkhedlaa
open Go.RowKit
set_option linter.unusedVariables false
set_option linter.unusedSimpArgs false

/-- Taps of places, as they lie in memory from a block's head on. -/
def RowsV (B : Nat) (w : World) (g : Nat) (Ls : List (List (Int × Int))) : Prop := ∀ i L, Ls[i]? = some L → ∃ g1 g2, w.cell? ⟨g, i * 2, none⟩ = some (.slice (some ⟨g1, 0, none⟩) L.length L.length) ∧ w.cell? ⟨g, i * 2 + 1, none⟩ = some (.slice (some ⟨g2, 0, none⟩) L.length L.length) ∧ IRow w g1 (L.map Prod.fst) ∧ IRow w g2 (L.map Prod.snd) ∧ g1 ≠ g ∧ g2 ≠ g ∧ B ≤ g1 ∧ B ≤ g2
theorem RowsV.next {B : Nat} {w w' : World} {g : Nat} {Ls : List (List (Int × Int))} (h : RowsV B w g Ls) (q : Q w w') : RowsV B w' g Ls := fun i L hi => by
  obtain ⟨g1, g2, h1, h2, h3, h4, h5, h6, h7⟩ := h i L hi
  exact ⟨g1, g2, q.cell h1, q.cell h2, h3.next q, h4.next q, h5, h6, h7⟩
theorem RowsV.other {B : Nat} {w : World} {g : Nat} {Ls : List (List (Int × Int))} (h : RowsV B w g Ls) {p : Addr} (hp : p.block < B) (hg : p.block ≠ g) (v : Value) : RowsV B (w.setCell p v) g Ls := fun i L hi => by
  obtain ⟨g1, g2, h1, h2, h3, h4, h5, h6, h7, h8⟩ := h i L hi
  exact ⟨g1, g2, (World.cell?_setCell_other _ _ _ _ (fun e => hg (by rw [e]))).trans h1, (World.cell?_setCell_other _ _ _ _ (fun e => hg (by rw [e]))).trans h2, h3.other (by omega) v, h4.other (by omega) v, h5, h6, h7, h8⟩
/-- A line: as many places as there are lists of taps, and what tells them. -/
structure LnV (w : World) (v : Value) (Ls : List (List (Int × Int))) (b g : Nat) : Prop where
  v : v = .agg #[.int .i64 (Ls.length : Nat), .func (.func 47) #[] #[.pointer (some ⟨b, 0, none⟩)]]
  box : w.cell? ⟨b, 0, none⟩ = some (.slice (some ⟨g, 0, none⟩) Ls.length Ls.length)
  rows : RowsV 0 w g Ls
theorem LnV.next {w w' : World} {v : Value} {Ls : List (List (Int × Int))} {b g : Nat} (h : LnV w v Ls b g) (q : Q w w') : LnV w' v Ls b g := ⟨h.v, q.cell h.box, h.rows.next q⟩
def LnX (w : World) (v : Value) (Ls : List (List (Int × Int))) : Prop := ∃ b g, LnV w v Ls b g
theorem LnX.next {w w' : World} {v : Value} {Ls : List (List (Int × Int))} (h : LnX w v Ls) (q : Q w w') : LnX w' v Ls := by
  obtain ⟨b, g, h⟩ := h
  exact ⟨b, g, h.next q⟩
/-- A line whose blocks lie from lo on. -/
def LnI (lo : Nat) (w : World) (v : Value) (Ls : List (List (Int × Int))) : Prop := ∃ b g, LnV w v Ls b g ∧ lo ≤ b ∧ lo ≤ g ∧ RowsV lo w g Ls
theorem LnI.x {lo : Nat} {w : World} {v : Value} {Ls : List (List (Int × Int))} (h : LnI lo w v Ls) : LnX w v Ls := by
  obtain ⟨b, g, h, _⟩ := h
  exact ⟨b, g, h⟩
theorem LnI.next {lo : Nat} {w w' : World} {v : Value} {Ls : List (List (Int × Int))} (h : LnI lo w v Ls) (q : Q w w') : LnI lo w' v Ls := by
  obtain ⟨b, g, h, h1, h2, h3⟩ := h
  exact ⟨b, g, h.next q, h1, h2, h3.next q⟩
/-- A line whose blocks lie from lo to hi. -/
def LnJ (lo hi : Nat) (w : World) (v : Value) (Ls : List (List (Int × Int))) : Prop := ∃ b g, LnV w v Ls b g ∧ (lo ≤ b ∧ b < hi) ∧ (lo ≤ g ∧ g < hi) ∧ ∀ i L, Ls[i]? = some L → ∃ g1 g2, w.cell? ⟨g, i * 2, none⟩ = some (.slice (some ⟨g1, 0, none⟩) L.length L.length) ∧ w.cell? ⟨g, i * 2 + 1, none⟩ = some (.slice (some ⟨g2, 0, none⟩) L.length L.length) ∧ IRow w g1 (L.map Prod.fst) ∧ IRow w g2 (L.map Prod.snd) ∧ g1 ≠ g ∧ g2 ≠ g ∧ (lo ≤ g1 ∧ g1 < hi) ∧ (lo ≤ g2 ∧ g2 < hi)
theorem LnJ.next {lo hi : Nat} {w w' : World} {v : Value} {Ls : List (List (Int × Int))} (h : LnJ lo hi w v Ls) (q : Q w w') : LnJ lo hi w' v Ls := by
  obtain ⟨b, g, h, h1, h2, h3⟩ := h
  refine ⟨b, g, h.next q, h1, h2, fun i L hi => ?_⟩
  obtain ⟨g1, g2, a1, a2, a3, a4, a5⟩ := h3 i L hi
  exact ⟨g1, g2, q.cell a1, q.cell a2, a3.next q, a4.next q, a5⟩
theorem LnJ.x {lo hi : Nat} {w : World} {v : Value} {Ls : List (List (Int × Int))} (h : LnJ lo hi w v Ls) : LnX w v Ls := by
  obtain ⟨b, g, h, _⟩ := h
  exact ⟨b, g, h⟩
/-- Blocks that lie apart from a line's may be written. -/
theorem LnJ.other {lo hi : Nat} {w : World} {v : Value} {Ls : List (List (Int × Int))} (h : LnJ lo hi w v Ls) {p : Addr} (hp : p.block < lo ∨ hi ≤ p.block) (u : Value) : LnJ lo hi (w.setCell p u) v Ls := by
  obtain ⟨b, g, h, h1, h2, h3⟩ := h
  have keep : ∀ i L, Ls[i]? = some L → ∃ g1 g2, (w.setCell p u).cell? ⟨g, i * 2, none⟩ = some (.slice (some ⟨g1, 0, none⟩) L.length L.length) ∧ (w.setCell p u).cell? ⟨g, i * 2 + 1, none⟩ = some (.slice (some ⟨g2, 0, none⟩) L.length L.length) ∧ IRow (w.setCell p u) g1 (L.map Prod.fst) ∧ IRow (w.setCell p u) g2 (L.map Prod.snd) ∧ g1 ≠ g ∧ g2 ≠ g ∧ (lo ≤ g1 ∧ g1 < hi) ∧ (lo ≤ g2 ∧ g2 < hi) := fun i L hi => by
    obtain ⟨g1, g2, a1, a2, a3, a4, a5, a6, a7, a8⟩ := h3 i L hi
    exact ⟨g1, g2, (World.cell?_setCell_other _ _ _ _ (fun e => by rw [e] at hp; simp only at hp; omega)).trans a1, (World.cell?_setCell_other _ _ _ _ (fun e => by rw [e] at hp; simp only at hp; omega)).trans a2, a3.other (by omega) u, a4.other (by omega) u, a5, a6, a7, a8⟩
  refine ⟨b, g, ⟨h.v, (World.cell?_setCell_other _ _ _ _ (fun e => by rw [e] at hp; simp only at hp; omega)).trans h.box, fun i L hi => ?_⟩, h1, h2, keep⟩
  obtain ⟨g1, g2, a1, a2, a3, a4, a5, a6, _⟩ := keep i L hi
  exact ⟨g1, g2, a1, a2, a3, a4, a5, a6, Nat.zero_le _, Nat.zero_le _⟩
theorem LnI.j {lo : Nat} {w : World} {v : Value} {Ls : List (List (Int × Int))} (h : LnI lo w v Ls) (h1 : 1 ≤ Ls.length) (hL : ∀ L ∈ Ls, 1 ≤ L.length) : LnJ lo w.heap.size w v Ls := by
  obtain ⟨b, g, h, l1, l2, r⟩ := h
  have hg : g < w.heap.size := by
    obtain ⟨g1, g2, a1, _⟩ := r 0 _ (List.getElem?_eq_getElem (by omega))
    exact World.block_lt_of_cell? _ _ a1
  refine ⟨b, g, h, ⟨l1, World.block_lt_of_cell? _ _ h.box⟩, ⟨l2, hg⟩, fun i L hi => ?_⟩
  obtain ⟨g1, g2, a1, a2, a3, a4, a5, a6, a7, a8⟩ := r i L hi
  have h1 := hL L (List.mem_of_getElem? hi)
  refine ⟨g1, g2, a1, a2, a3, a4, a5, a6, ⟨a7, ?_⟩, ⟨a8, ?_⟩⟩
  · exact World.block_lt_of_cell? _ _ (a3.cell 0 _ (List.getElem?_eq_getElem (by rw [List.length_map]; omega)))
  · exact World.block_lt_of_cell? _ _ (a4.cell 0 _ (List.getElem?_eq_getElem (by rw [List.length_map]; omega)))
theorem blInfo : ∃ i, Try.prog.info? 89 = some i ∧ i.size = 2 ∧ i.bytes = 48 ∧ i.zero = some (.agg #[.slice none 0 0, .slice none 0 0]) := kinfo_of (by kernel_rfl)
theorem make_bl (n : Nat) (hn : n ≤ 1048576) : ∃ M : Array Value, (∀ w : World, (Instr.makeSlice 91 (.int .i64 (n : Int)) (.int .i64 (n : Int))).run Try.prog w = .ok (.slice (some ⟨w.heap.size, 0, none⟩) n n) (w.alloc (.cells M 89))) ∧ M.size = n * 2 := by
  obtain ⟨i, i1, i2, i3, i4⟩ := blInfo
  refine ⟨madeCells (Value.agg #[.slice none 0 0, .slice none 0 0]).cells (n * 2), fun w => ?_, by unfold madeCells; simp⟩
  have := run_make (P := Try.prog) w 91 89 i _ Try.underlying91 i1 i4 .i64 .i64 n n (by omega) (by omega) (by rw [i3]; omega) (by omega)
  rw [i2] at this
  simp only [Int.toNat_natCast] at this
  exact this
/-- What lineOf holds behind i places. -/
structure Ln3 (w wr : World) (Ls : List (List (Int × Int))) (n g b i : Nat) : Prop where
  q : Q w wr
  rows : RowsV w.heap.size wr g (Ls.take i)
  box : wr.cell? ⟨b, 0, none⟩ = some (.slice (some ⟨g, 0, none⟩) n n)
  room : ∀ j, j < n * 2 → ∃ v, wr.cell? ⟨g, j, none⟩ = some v
  free : ∀ j, wr.frozen? ⟨g, j, none⟩ = false
section
variable {ρ : Operand → Value} {x : World} {d : Option Tmp} {ty : TypeId} {ps : String} {af : Array Edge} {gd : Option (Nat × Bool)}
theorem run_ixb {j k gg Lw cap i : Nat} (h : ρ (.tmp j) = .slice (some ⟨gg, 0, none⟩) Lw cap) (h' : ρ (.tmp k) = .int .i64 (i : Nat)) (hi : i < Lw) : (execOp ρ { dst := d, op := .indexAddr 91 (.tmp j) (.tmp k), type := ty, pos := ps, after := af, guard := gd }).run Try.prog x = .ok (.value (.pointer (some ⟨gg, i * 2, none⟩))) x := by
  simp [execOp, h, h', go_sem, hi]
theorem run_stb {j k : Nat} {B i l1 l2 k1 k2 : Nat} {a1 a2 : Option Addr} {a b : Value} (h : ρ (.tmp j) = .pointer (some ⟨B, i, none⟩)) (h' : ρ (.tmp k) = .agg #[.slice a1 l1 k1, .slice a2 l2 k2]) (c : x.cell? ⟨B, i, none⟩ = some a) (c' : x.cell? ⟨B, i + 1, none⟩ = some b) (f : ∀ j, x.frozen? ⟨B, j, none⟩ = false) : (execOp ρ { dst := none, op := .store 89 (.tmp j) (.tmp k), type := ty, pos := ps, after := af, guard := gd }).run Try.prog x = .ok .skip ((x.setCell ⟨B, i, none⟩ (.slice a1 l1 k1)).setCell ⟨B, i + 1, none⟩ (.slice a2 l2 k2)) := by
  simp [execOp, h, h', go_sem, c, c', f]
end
theorem Ln3.step {w wr x : World} {Ls : List (List (Int × Int))} {n g b j g1 g2 : Nat} {L : List (Int × Int)} (h : Ln3 w wr Ls n g b j) (q : Q wr x) (hg : w.heap.size ≤ g) (hgb : g ≠ b) (hj : j < n) (hL : Ls[j]? = some L) (h1 : IRow x g1 (L.map Prod.fst)) (h2 : IRow x g2 (L.map Prod.snd)) (n1 : g1 ≠ g) (n2 : g2 ≠ g) (m1 : w.heap.size ≤ g1) (m2 : w.heap.size ≤ g2) :
    Ln3 w ((x.setCell ⟨g, j * 2, none⟩ (.slice (some ⟨g1, 0, none⟩) L.length L.length)).setCell ⟨g, j * 2 + 1, none⟩ (.slice (some ⟨g2, 0, none⟩) L.length L.length)) Ls n g b (j + 1) := by
  have keep : ∀ (gg : Nat) (zs : List Int), gg ≠ g → IRow x gg zs → IRow ((x.setCell ⟨g, j * 2, none⟩ (.slice (some ⟨g1, 0, none⟩) L.length L.length)).setCell ⟨g, j * 2 + 1, none⟩ (.slice (some ⟨g2, 0, none⟩) L.length L.length)) gg zs := fun gg zs hne hr => (hr.other (p := ⟨g, j * 2, none⟩) (fun e => hne e.symm) _).other (p := ⟨g, j * 2 + 1, none⟩) (fun e => hne e.symm) _
  obtain ⟨u0, c0⟩ := h.room (j * 2) (by omega)
  obtain ⟨u1, c1⟩ := h.room (j * 2 + 1) (by omega)
  have c0 := q.cell c0
  have c1 := q.cell c1
  have a0 := World.cell?_setCell_same x ⟨g, j * 2, none⟩ (.slice (some ⟨g1, 0, none⟩) L.length L.length) c0
  have c1' : (x.setCell ⟨g, j * 2, none⟩ (.slice (some ⟨g1, 0, none⟩) L.length L.length)).cell? ⟨g, j * 2 + 1, none⟩ = some u1 := (World.cell?_setCell_other _ _ _ _ (fun e => by injection e with _ e; omega)).trans c1
  have a1 := World.cell?_setCell_same _ ⟨g, j * 2 + 1, none⟩ (.slice (some ⟨g2, 0, none⟩) L.length L.length) c1'
  have a0' := (World.cell?_setCell_other (x.setCell ⟨g, j * 2, none⟩ (.slice (some ⟨g1, 0, none⟩) L.length L.length)) ⟨g, j * 2 + 1, none⟩ ⟨g, j * 2, none⟩ (.slice (some ⟨g2, 0, none⟩) L.length L.length) (fun e => by injection e with _ e; omega)).trans a0
  refine ⟨((h.q.trans q).set hg _).set hg _, fun i L' hi => ?_, ?_, fun k hk => ?_, fun k => by rw [World.frozen?_setCell, World.frozen?_setCell, q.2]; exact h.free k⟩
  · rw [List.take_add_one, List.getElem?_append] at hi
    split at hi
    · rename_i hlt
      obtain ⟨k1, k2, e1, e2, e3, e4, e5, e6, e7⟩ := h.rows i L' hi
      have hij : i < j := by rw [List.length_take] at hlt; omega
      refine ⟨k1, k2, ?_, ?_, keep k1 _ e5 (e3.next q), keep k2 _ e6 (e4.next q), e5, e6, e7⟩
      · rw [World.cell?_setCell_other _ _ _ _ (fun e => by injection e with _ e; omega), World.cell?_setCell_other _ _ _ _ (fun e => by injection e with _ e; omega)]; exact q.cell e1
      · rw [World.cell?_setCell_other _ _ _ _ (fun e => by injection e with _ e; omega), World.cell?_setCell_other _ _ _ _ (fun e => by injection e with _ e; omega)]; exact q.cell e2
    · rename_i hge
      have hjl : j < Ls.length := (List.getElem?_eq_some_iff.1 hL).1
      have hlen : (Ls.take j).length = j := by rw [List.length_take]; omega
      rw [hlen, hL] at hi
      simp only [Option.toList_some] at hi
      have hi0 : i - j = 0 := by
        rcases Nat.eq_zero_or_pos (i - j) with c | c
        · exact c
        · rw [List.getElem?_eq_none (by simp; omega)] at hi; cases hi
      rw [hi0] at hi
      simp at hi
      subst hi
      have hij : i = j := by rw [hlen] at hge; omega
      subst hij
      exact ⟨g1, g2, a0', a1, keep g1 _ n1 h1, keep g2 _ n2 h2, n1, n2, m1, m2⟩
  · rw [World.cell?_setCell_other _ _ _ _ (fun e => hgb (by injection e)), World.cell?_setCell_other _ _ _ _ (fun e => hgb (by injection e))]; exact q.cell h.box
  · by_cases e1 : k = j * 2 + 1
    · subst e1; exact ⟨_, a1⟩
    · by_cases e2 : k = j * 2
      · subst e2; exact ⟨_, a0'⟩
      · obtain ⟨u, hu⟩ := h.room k hk
        exact ⟨u, by rw [World.cell?_setCell_other _ _ _ _ (fun e => by injection e with _ e; omega), World.cell?_setCell_other _ _ _ _ (fun e => by injection e with _ e; omega)]; exact q.cell hu⟩
set_option maxHeartbeats 4000000 in
set_option maxRecDepth 100000 in
theorem lineOf_any (kind F T : Int) (lo n : Nat) (w : World) (hn : n ≤ 100000) (hlo : lo ≤ 100000) :
    Calls Try.prog 31 #[.int .i64 kind, .int .i64 F, .int .i64 T, .int .i64 (lo : Int), .int .i64 ((lo + n : Nat) : Int)] w fun e w' => ∃ v, e = .returned v ∧ LnI w.heap.size w' v ((List.range n).map fun (k : Nat) => tpA kind F T ((lo + k : Nat) : Int)) ∧ Q w w' := by
  obtain ⟨M, hmk, hM⟩ := make_bl n (by omega)
  obtain ⟨Ls, hLs⟩ : ∃ Ls, (List.range n).map (fun (k : Nat) => tpA kind F T ((lo + k : Nat) : Int)) = Ls := ⟨_, rfl⟩
  have HL : Hid (Ls.length = n ∧ ∀ k, k < n → Ls[k]? = some (tpA kind F T ((lo + k : Nat) : Int))) := by
    rw [← hLs]
    exact ⟨by simp, fun k hk => by rw [List.getElem?_map, List.getElem?_range hk]; rfl⟩
  rw [hLs]
  have HC : Hid (∀ (i : Int) (W : World), Calls Try.prog 46 #[.int .i64 kind, .int .i64 F, .int .i64 T, .int .i64 i] W fun e w' => ∃ v, e = .returned v ∧ BlW W w' v (tpA kind F T i) ∧ Q W w') := fun i W => blendOf_any kind F T i W
  obtain ⟨hi, ehi⟩ : ∃ hi : Int, ((lo + n : Nat) : Int) = hi := ⟨_, rfl⟩
  have e1 : hi - (lo : Int) = (n : Int) := by omega
  have b1 : hi ≤ 200000 := by omega
  have b0 : 0 ≤ hi := by omega
  rw [ehi]
  clear hLs ehi
  go_enter Try.func31, Try.ntmps31
  go_wp2_with fail
  obtain ⟨w0, hw0⟩ : ∃ w0, w.alloc (.cells #[.int .i64 0, .nilFunc] 72) = w0 := ⟨_, rfl⟩
  have HQ0 : Hid (Q w w0) := by rw [← hw0]; exact (Q.refl w).cells _ _
  have HS0 : Hid (w0.heap.size = w.heap.size + 1) := by show w0.heap.size = _; rw [← hw0]; simp
  have HR0 : Hid (w0.cell? ⟨w.heap.size, 0, none⟩ = some (.int .i64 0) ∧ w0.cell? ⟨w.heap.size, 1, none⟩ = some .nilFunc ∧ ∀ j, w0.frozen? ⟨w.heap.size, j, none⟩ = false) := by
    rw [← hw0]
    exact ⟨by simp [go_sem], by simp [go_sem], fun j => by simp [go_sem]⟩
  have H0 : Hid (Ln3 w0 ((w0.alloc (.cells M 89)).alloc (.cells #[.slice (some ⟨w.heap.size + 1, 0, none⟩) n n] 91)) Ls n (w.heap.size + 1) (w.heap.size + 1 + 1) 0) := by
    have hb : (w0.alloc (.cells M 89)).heap[w0.heap.size]? = some (.cells M 89 (0, 0)) := heap_alloc_new w0 _
    have q1 : Q (w0.alloc (.cells M 89)) ((w0.alloc (.cells M 89)).alloc (.cells #[.slice (some ⟨w.heap.size + 1, 0, none⟩) n n] 91)) := (Q.refl _).cells _ _
    rw [HS0.out] at hb
    refine ⟨((Q.refl w0).cells _ _).trans q1, fun i L hi => by simp at hi, ?_, fun j hj => ⟨M[j]'(by omega), ?_⟩, fun j => ?_⟩
    · have e : (w0.alloc (.cells M 89)).heap.size = w.heap.size + 1 + 1 := by simp [HS0.out]
      rw [← e]
      simp [go_sem]
    · refine q1.cell ?_
      rw [cell_of_row _ _ j _ 89 (0, 0) hb, Array.getElem?_eq_getElem (by omega)]
    · rw [q1.2]
      unfold World.frozen?; rw [hb]; simp
  rw [hw0]
  clear hw0 hmk hM
  generalize (w0.alloc (.cells M 89)).alloc (.cells #[.slice (some ⟨w.heap.size + 1, 0, none⟩) n n] 91) = w3 at H0 ⊢
  go_loopg [13, 20] n (fun gh s13 s20 wr => ∃ j : Nat, s20 = .int .i64 (j : Int) ∧ j ≤ n ∧ gh = n - j ∧ Hid (Ln3 w0 wr Ls n (w.heap.size + 1) (w.heap.size + 1 + 1) j))
  case atStart => exact ⟨0, rfl, Nat.zero_le _, rfl, H0⟩
  case round =>
    clear H0
    obtain ⟨j, rfl, hj, rfl, HI⟩ := hrel
    by_cases hlt : j < n
    · have hltz : (j : Int) < (n : Int) := by omega
      obtain ⟨k, hk⟩ : ∃ k : Int, (lo : Int) + (j : Int) = k := ⟨_, rfl⟩
      have wk : IntKind.i64.wrap k = k := by rw [IntKind.wrap_i64]; omega
      have HCj : Hid (∀ W : World, Calls Try.prog 46 #[.int .i64 kind, .int .i64 F, .int .i64 T, .int .i64 k] W fun e w' => ∃ v, e = .returned v ∧ BlW W w' v (tpA kind F T k) ∧ Q W w') := fun W => HC.out k W
      have hLj : Ls[j]? = some (tpA kind F T k) := by rw [HL.out.2 j hlt, ← hk]; congr 2
      obtain ⟨L, hLe⟩ : ∃ L, tpA kind F T k = L := ⟨_, rfl⟩
      rw [hLe] at HCj hLj
      have HLj : Hid (Ls[j]? = some L) := hLj
      have bx := HI.out.box
      have n0 := qw_some wr
      have f0 := qw_cell bx
      clear hLj hLe
      go_wp2_with fail
      refine wp_region_mk [0, 1, 2, 3, 4, 5, 6, 7] [[8, 9, 10]] 3 _ (by kernel_rfl) (by kernel_rfl) rfl (by kernel_rfl) ?_
      simp only [List.filterMap_cons, List.filterMap_nil, List.getElem?_cons_zero, List.getElem?_cons_succ]
      repeat (first | go_big_quiet_step (fail) | quiet_step (fail))
      refine wpQuiet_nil ?_
      intro x5 hx5
      clear f0 n0
      refine treeA_call 8 (by kernel_rfl) rfl (run_fn 46 #[.tmp 25, .tmp 26, .tmp 27, .tmp 30] _ rfl (fun _ _ => rfl) (vs := #[.int .i64 kind, .int .i64 F, .int .i64 T, .int .i64 k]) (by kernel_rfl)) (G := fun v x' => BlW x5 x' v L ∧ Q x5 x') ((HCj.out _).mono fun e x' ⟨v, h1, h2, h3⟩ => ⟨v, h1, h2, h3⟩) ?_
      rintro v x6 ⟨⟨g1, g2, rfl, l1, l2, r1, r2⟩, q6⟩
      have q56 : Q wr x6 := hx5.trans q6
      have hgl : w.heap.size + 1 < wr.heap.size := by
        obtain ⟨u, hu⟩ := HI.out.room (j * 2) (by omega)
        exact World.block_lt_of_cell? _ _ hu
      have hsz5 := hx5.1.size
      obtain ⟨u0, c0⟩ := HI.out.room (j * 2) (by omega)
      obtain ⟨u1, c1⟩ := HI.out.room (j * 2 + 1) (by omega)
      have c0 := q56.cell c0
      have c1 := q56.cell c1
      have fr : ∀ j, x6.frozen? ⟨w.heap.size + 1, j, none⟩ = false := fun j => by rw [q56.2]; exact HI.out.free j
      have HI2 : Hid _ := HI.out.step q56 (by have := HS0.out; omega) (by omega) hlt HLj.out r1 r2 (by omega) (by omega) (by have := HI.out.q.1.size; omega) (by have := HI.out.q.1.size; omega)
      refine ⟨q56, ?_⟩
      refine treeA_run 9 (by kernel_rfl) rfl (v := .pointer (some ⟨w.heap.size + 1, j * 2, none⟩)) (x' := x6) (run_ixb (Lw := n) (cap := n) (by kernel_rfl) (by kernel_rfl) hlt) (Or.inr q56) ?_
      refine treeA_skip 10 (by kernel_rfl) rfl (x' := (x6.setCell ⟨w.heap.size + 1, j * 2, none⟩ (.slice (some ⟨g1, 0, none⟩) L.length L.length)).setCell ⟨w.heap.size + 1, j * 2 + 1, none⟩ (.slice (some ⟨g2, 0, none⟩) L.length L.length)) (run_stb (i := j * 2) (by kernel_rfl) (by kernel_rfl) c0 c1 fr) (Or.inl (by kernel_rfl)) ?_
      refine tree_nil ?_
      clear r1 r2 l1 l2 c0 c1 fr q6 hx5 HI q56 bx
      generalize (x6.setCell ⟨w.heap.size + 1, j * 2, none⟩ (.slice (some ⟨g1, 0, none⟩) L.length L.length)).setCell ⟨w.heap.size + 1, j * 2 + 1, none⟩ (.slice (some ⟨g2, 0, none⟩) L.length L.length) = w9 at HI2 ⊢
      go_wp2_with fail
      go_roundg (n - (j + 1))
      case measure => go_light; omega
      case rel => go_light; exact ⟨j + 1, by simp, by omega, rfl, HI2⟩
    · have hge : ¬ (j : Int) < (n : Int) := by omega
      obtain rfl : j = n := by omega
      have o0 := HI.out.q.cell HR0.out.1
      have o1 := HI.out.q.cell HR0.out.2.1
      have fo : ∀ k, wr.frozen? ⟨w.heap.size, k, none⟩ = false := fun k => by rw [HI.out.q.2]; exact HR0.out.2.2 k
      have fo0 := fo 0
      have fo1 := fo 1
      obtain ⟨fv, hfv⟩ : ∃ fv : Value, Value.func (.func 47) #[] #[.pointer (some ⟨w.heap.size + 1 + 1, 0, none⟩)] = fv := ⟨_, rfl⟩
      have HW : Hid (LnI w.heap.size ((wr.setCell ⟨w.heap.size, 0, none⟩ (.int .i64 (j : Int))).setCell ⟨w.heap.size, 1, none⟩ (.func (.func 47) #[] #[.pointer (some ⟨w.heap.size + 1 + 1, 0, none⟩)])) (.agg #[.int .i64 (j : Int), .func (.func 47) #[] #[.pointer (some ⟨w.heap.size + 1 + 1, 0, none⟩)]]) Ls) := by
        have hl := HL.out.1
        have hs := HS0.out
        have r := (HI.out.rows.other (p := ⟨w.heap.size, 0, none⟩) (by show w.heap.size < _; omega) (by show w.heap.size ≠ _; omega) (.int .i64 (j : Int))).other (p := ⟨w.heap.size, 1, none⟩) (by show w.heap.size < _; omega) (by show w.heap.size ≠ _; omega) (.func (.func 47) #[] #[.pointer (some ⟨w.heap.size + 1 + 1, 0, none⟩)])
        rw [List.take_of_length_le (by omega)] at r
        refine ⟨w.heap.size + 1 + 1, w.heap.size + 1, ⟨by rw [hl], ?_, fun i L hi => ?_⟩, by omega, by omega, fun i L hi => ?_⟩
        · rw [hl, World.cell?_setCell_other _ _ _ _ (fun e => by injection e with e; omega), World.cell?_setCell_other _ _ _ _ (fun e => by injection e with e; omega)]; exact HI.out.box
        · obtain ⟨g1, g2, h1, h2, h3, h4, h5, h6, _⟩ := r i L hi
          exact ⟨g1, g2, h1, h2, h3, h4, h5, h6, Nat.zero_le _, Nat.zero_le _⟩
        · obtain ⟨g1, g2, h1, h2, h3, h4, h5, h6, h7, h8⟩ := r i L hi
          exact ⟨g1, g2, h1, h2, h3, h4, h5, h6, by omega, by omega⟩
      have HQ : Hid (Q w ((wr.setCell ⟨w.heap.size, 0, none⟩ (.int .i64 (j : Int))).setCell ⟨w.heap.size, 1, none⟩ (.func (.func 47) #[] #[.pointer (some ⟨w.heap.size + 1 + 1, 0, none⟩)]))) := ((HQ0.out.trans HI.out.q).set (Nat.le_refl _) _).set (Nat.le_refl _) _
      have v0 : ((wr.setCell ⟨w.heap.size, 0, none⟩ (.int .i64 (j : Int))).setCell ⟨w.heap.size, 1, none⟩ (.func (.func 47) #[] #[.pointer (some ⟨w.heap.size + 1 + 1, 0, none⟩)])).cell? ⟨w.heap.size, 0, none⟩ = some (.int .i64 (j : Int)) := (World.cell?_setCell_other _ _ _ _ (fun e => by injection e with _ e; cases e)).trans (World.cell?_setCell_same _ _ _ o0)
      have v1 : ((wr.setCell ⟨w.heap.size, 0, none⟩ (.int .i64 (j : Int))).setCell ⟨w.heap.size, 1, none⟩ (.func (.func 47) #[] #[.pointer (some ⟨w.heap.size + 1 + 1, 0, none⟩)])).cell? ⟨w.heap.size, 1, none⟩ = some (.func (.func 47) #[] #[.pointer (some ⟨w.heap.size + 1 + 1, 0, none⟩)]) := World.cell?_setCell_same _ _ _ ((World.cell?_setCell_other _ _ _ _ (fun e => by injection e with _ e; cases e)).trans o1)
      clear hfv fo HI
      go_wp2_with fail
      generalize (wr.setCell ⟨w.heap.size, 0, none⟩ (.int .i64 (j : Int))).setCell ⟨w.heap.size, 1, none⟩ (.func (.func 47) #[] #[.pointer (some ⟨w.heap.size + 1 + 1, 0, none⟩)]) = w9 at HW HQ v0 v1 ⊢
      exact bodyPost_ret (v := .agg #[.int .i64 (j : Int), .func (.func 47) #[] #[.pointer (some ⟨w.heap.size + 1 + 1, 0, none⟩)]]) (by simp [results, Try.results31, go_sem, v0, v1]) rfl ⟨_, rfl, HW.out, HQ.out⟩
end Go.Proofs.Ytdbbpmadkhedlaa
