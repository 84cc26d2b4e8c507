/- The document's binary64: numbers rounded; YCC. -/
import Derived.Test.YtedafbbpcpebbaaG1e7a8f2d
import Derived.Test.YtedafbbpcpebbaaGa34b2b13
import Derived.Test.YtedafbbpcpebbaaGb0049294
namespace Go.Proofs.Ytedafbbpcpebbaa
open Go.RowKit
set_option linter.unusedVariables false
set_option linter.unusedSimpArgs false

theorem roundD_lt (X : RNum) : roundD X < 18446744073709551616 := by
  cases X using RNum.rec3 with
  | nan => show 9221120237041090560 < 18446744073709551616; omega
  | inf s => exact word_lt_64 (by omega)
  | fin s n e m =>
    refine word_lt_64 ?_
    have := rungOf_le Ieee.double (2 * n + m.toNat) (e - 1)
    rw [inf64] at this; omega
def oRd_0 : Oper := { dst := some 5, op := .load 66 (.tmp 3), type := 66, pos := "halideref7.go:17", after := #[], guard := none }
def oRd_1 : Oper := { dst := some 6, op := .load 66 (.tmp 3), type := 66, pos := "halideref7.go:17", after := #[], guard := none }
def oRd_2 : Oper := { dst := some 7, op := .load 38 (.tmp 1), type := 38, pos := "halideref7.go:17", after := #[], guard := none }
def oRd_3 : Oper := { dst := some 8, op := .call { callee := .value (.func 66), args := #[.tmp 6, .tmp 7], argTypes := #[66, 38] }, type := 69, pos := "halideref7.go:17", after := #[⟨1, .data⟩, ⟨2, .data⟩], guard := none }
def oRd_4 : Oper := { dst := some 9, op := .call { callee := .value (.func 55), args := #[.tmp 5, .tmp 8], argTypes := #[66, 69] }, type := 38, pos := "halideref7.go:17", after := #[⟨0, .data⟩, ⟨3, .data⟩, ⟨3, .chain⟩], guard := none }
def oRd_5 : Oper := { dst := none, op := .store 38 (.tmp 2) (.tmp 9), type := 0, pos := "halideref7.go:17", after := #[⟨4, .data⟩, ⟨4, .chain⟩, ⟨0, .phase⟩, ⟨1, .phase⟩, ⟨2, .phase⟩, ⟨3, .phase⟩, ⟨4, .phase⟩], guard := none }
def opsRd : List Oper := [oRd_0, oRd_1, oRd_2, oRd_3, oRd_4, oRd_5]
def sRd : List Nat := [5, 6, 7, 8, 9]
def spRd (V1 V2 V3 : Nat) (X : RNum) : List Spec := [spV formV, spV formV, numQ X, spV (.int .u64 (roundD X : Nat)), numQ (numOf Ieee.double (roundD X))]
structure EnvRd (a0 : Act) (w : World) (V1 V2 V3 : Nat) (X : RNum) : Prop where
  h3 : a0.tmps[3]? = some (ptrV V3)
  h1 : a0.tmps[1]? = some (ptrV V1)
  h2 : a0.tmps[2]? = some (ptrV V2)
  fb : FBox w V3
  nb : NBox w V1 X
  hf : fitsD X
  bx : Box5 w V2 0 false none 0 0 0 false
  fz : ∀ j, w.frozen? ⟨V2, j, none⟩ = false
theorem yRd_0 {a0 : Act} {w : World} {V1 V2 V3 : Nat} {X : RNum} (E : EnvRd a0 w V1 V2 V3 X) {R : Exit → Act → World → Prop} {a : Act} {x : World} (q : Q w x) (oth : ∀ j, j ∉ sRd → a.tmps[j]? = a0.tmps[j]?) (dep : ∀ ed ∈ oRd_0.after, Region.binds .any ed = true → ∀ t', sRd[ed.on]? = some t' → ∃ v, a.tmps[t']? = some v ∧ specAt (spRd V1 V2 V3 X) ed.on v x) : Yld Try.prog R oRd_0 a x 5 (fun v x' => specAt (spRd V1 V2 V3 X) 0 v x' ∧ (0 ∈ ([] : List Nat) → v = ptrV x.heap.size)) := by
  exact yld_run (x' := x) rfl (run_form (tmp_eval ((oth 3 (by decide)).trans E.h3)) (E.fb.next q)) (Q.refl x) ⟨rfl, fun h => absurd h (by decide)⟩
theorem yRd_1 {a0 : Act} {w : World} {V1 V2 V3 : Nat} {X : RNum} (E : EnvRd a0 w V1 V2 V3 X) {R : Exit → Act → World → Prop} {a : Act} {x : World} (q : Q w x) (oth : ∀ j, j ∉ sRd → a.tmps[j]? = a0.tmps[j]?) (dep : ∀ ed ∈ oRd_1.after, Region.binds .any ed = true → ∀ t', sRd[ed.on]? = some t' → ∃ v, a.tmps[t']? = some v ∧ specAt (spRd V1 V2 V3 X) ed.on v x) : Yld Try.prog R oRd_1 a x 6 (fun v x' => specAt (spRd V1 V2 V3 X) 1 v x' ∧ (1 ∈ ([] : List Nat) → v = ptrV x.heap.size)) := by
  exact yld_run (x' := x) rfl (run_form (tmp_eval ((oth 3 (by decide)).trans E.h3)) (E.fb.next q)) (Q.refl x) ⟨rfl, fun h => absurd h (by decide)⟩
theorem yRd_2 {a0 : Act} {w : World} {V1 V2 V3 : Nat} {X : RNum} (E : EnvRd a0 w V1 V2 V3 X) {R : Exit → Act → World → Prop} {a : Act} {x : World} (q : Q w x) (oth : ∀ j, j ∉ sRd → a.tmps[j]? = a0.tmps[j]?) (dep : ∀ ed ∈ oRd_2.after, Region.binds .any ed = true → ∀ t', sRd[ed.on]? = some t' → ∃ v, a.tmps[t']? = some v ∧ specAt (spRd V1 V2 V3 X) ed.on v x) : Yld Try.prog R oRd_2 a x 7 (fun v x' => specAt (spRd V1 V2 V3 X) 2 v x' ∧ (2 ∈ ([] : List Nat) → v = ptrV x.heap.size)) := by
  obtain ⟨k, s, p, L, C, e, m, b1, b2⟩ := E.nb.next q
  exact yld_run (x' := x) rfl (run_num (tmp_eval ((oth 1 (by decide)).trans E.h1)) b1) (Q.refl x) ⟨b2, fun h => absurd h (by decide)⟩
theorem yRd_3 {a0 : Act} {w : World} {V1 V2 V3 : Nat} {X : RNum} (E : EnvRd a0 w V1 V2 V3 X) {R : Exit → Act → World → Prop} {a : Act} {x : World} (q : Q w x) (oth : ∀ j, j ∉ sRd → a.tmps[j]? = a0.tmps[j]?) (dep : ∀ ed ∈ oRd_3.after, Region.binds .any ed = true → ∀ t', sRd[ed.on]? = some t' → ∃ v, a.tmps[t']? = some v ∧ specAt (spRd V1 V2 V3 X) ed.on v x) : Yld Try.prog R oRd_3 a x 8 (fun v x' => specAt (spRd V1 V2 V3 X) 3 v x' ∧ (3 ∈ ([] : List Nat) → v = ptrV x.heap.size)) := by
  obtain ⟨v1, t1, f1⟩ := dep ⟨1, .data⟩ (by simp [oRd_3]) rfl 6 rfl
  have f1 : v1 = formV := f1
  subst f1
  obtain ⟨v2, t2, f2⟩ := dep ⟨2, .data⟩ (by simp [oRd_3]) rfl 7 rfl
  have f2 : (numQ X).p v2 x := f2
  refine yld_call (enters_of Try.func66 (by kernel_rfl) rfl) (args2 t1 t2) ((round64_any _ _ x f2 E.hf).mono ?_)
  rintro u x' ⟨rfl, q'⟩
  exact ⟨_, rfl, q', rfl, fun h => absurd h (by decide)⟩
theorem yRd_4 {a0 : Act} {w : World} {V1 V2 V3 : Nat} {X : RNum} (E : EnvRd a0 w V1 V2 V3 X) {R : Exit → Act → World → Prop} {a : Act} {x : World} (q : Q w x) (oth : ∀ j, j ∉ sRd → a.tmps[j]? = a0.tmps[j]?) (dep : ∀ ed ∈ oRd_4.after, Region.binds .any ed = true → ∀ t', sRd[ed.on]? = some t' → ∃ v, a.tmps[t']? = some v ∧ specAt (spRd V1 V2 V3 X) ed.on v x) : Yld Try.prog R oRd_4 a x 9 (fun v x' => specAt (spRd V1 V2 V3 X) 4 v x' ∧ (4 ∈ ([] : List Nat) → v = ptrV x.heap.size)) := by
  obtain ⟨v0, t0, f0⟩ := dep ⟨0, .data⟩ (by simp [oRd_4]) rfl 5 rfl
  have f0 : v0 = formV := f0
  subst f0
  obtain ⟨v3, t3, f3⟩ := dep ⟨3, .data⟩ (by simp [oRd_4]) rfl 8 rfl
  have f3 : v3 = (.int .u64 (roundD X : Nat)) := f3
  subst f3
  refine yld_call (enters_of Try.func55 (by kernel_rfl) rfl) (args2 t0 t3) ((of64_any (roundD X) x (roundD_lt X)).mono ?_)
  rintro u x' ⟨v, rfl, h, q'⟩
  exact ⟨v, rfl, q', h, fun h => absurd h (by decide)⟩
theorem hopRd {a0 : Act} {w : World} {V1 V2 V3 : Nat} {X : RNum} (E : EnvRd a0 w V1 V2 V3 X) {R : Exit → Act → World → Prop} : ∀ (i t : Nat) (o : Oper) (a : Act) (x : World), i < 5 → sRd[i]? = some t → opsRd[i]? = some o → Q w x → (∀ j, j ∉ sRd → a.tmps[j]? = a0.tmps[j]?) → (∀ ed ∈ o.after, Region.binds .any ed = true → ∀ t', sRd[ed.on]? = some t' → ∃ v, a.tmps[t']? = some v ∧ specAt (spRd V1 V2 V3 X) ed.on v x) → Yld Try.prog R o a x t (fun v x' => specAt (spRd V1 V2 V3 X) i v x' ∧ (i ∈ ([] : List Nat) → v = ptrV x.heap.size))
  | 0, t, o, a, x, hi, ht, ho, q, oth, dep => by
    have e1 : oRd_0 = o := Option.some.inj ho
    have e2 : 5 = t := Option.some.inj ht
    subst e1 e2
    exact yRd_0 E q oth dep
  | 1, t, o, a, x, hi, ht, ho, q, oth, dep => by
    have e1 : oRd_1 = o := Option.some.inj ho
    have e2 : 6 = t := Option.some.inj ht
    subst e1 e2
    exact yRd_1 E q oth dep
  | 2, t, o, a, x, hi, ht, ho, q, oth, dep => by
    have e1 : oRd_2 = o := Option.some.inj ho
    have e2 : 7 = t := Option.some.inj ht
    subst e1 e2
    exact yRd_2 E q oth dep
  | 3, t, o, a, x, hi, ht, ho, q, oth, dep => by
    have e1 : oRd_3 = o := Option.some.inj ho
    have e2 : 8 = t := Option.some.inj ht
    subst e1 e2
    exact yRd_3 E q oth dep
  | 4, t, o, a, x, hi, ht, ho, q, oth, dep => by
    have e1 : oRd_4 = o := Option.some.inj ho
    have e2 : 9 = t := Option.some.inj ht
    subst e1 e2
    exact yRd_4 E q oth dep
  | i + 5, t, o, a, x, hi, ht, ho, q, oth, dep => absurd hi (by omega)
theorem regionRd {id : Nat} {l : List Oper} {R : Exit → Act → World → Prop} {a0 : Act} {w : World} {V1 V2 V3 : Nat} {X : RNum} (hl : l = opsRd) (hsz : a0.tmps.size = 10) (E : EnvRd a0 w V1 V2 V3 X)
    (hR : ∀ x x' v2 v4, Q w x → Laid x x' V2 → NBox x' V2 (numOf Ieee.double (roundD X)) → R .normal (putAll a0 [(5, formV), (6, formV), (7, v2), (8, .int .u64 (roundD X : Nat)), (9, v4)]) x') :
    (Code.region id l.toArray true).wp Try.prog R a0 w := by
  subst hl
  refine wp_region_facts 5 sRd (specAt (spRd V1 V2 V3 X)) [] (by kernel_rfl) (by decide +kernel) (by decide) rfl (by decide) (fun t ht => ?_) specAt.next (fun i v x hi hf => by cases hi) (hopRd E) (fun a x q size defers other facts apart => ?_)
  · rw [hsz]
    revert t
    decide
  · obtain ⟨v0, t0, f0⟩ := facts 0 5 (by decide) rfl
    have f0 : v0 = formV := f0
    subst f0
    obtain ⟨v1, t1, f1⟩ := facts 1 6 (by decide) rfl
    have f1 : v1 = formV := f1
    subst f1
    obtain ⟨v2, t2, f2⟩ := facts 2 7 (by decide) rfl
    obtain ⟨v3, t3, f3⟩ := facts 3 8 (by decide) rfl
    have f3 : v3 = .int .u64 (roundD X : Nat) := f3
    subst f3
    obtain ⟨v4, t4, f4⟩ := facts 4 9 (by decide) rfl
    have f4 : NumAt x v4 (numOf Ieee.double (roundD X)) := f4
    refine ⟨?_⟩
    show Oper.wp Try.prog oRd_5 a x (fun a' w' => R .normal a' w') R
    unfold oRd_5
    have hA := act_puts (a := a) (a0 := a0) [(5, formV), (6, formV), (7, v2), (8, .int .u64 (roundD X : Nat)), (9, v4)] (by show [5, 6, 7, 8, 9].Nodup; decide) size defers (fun j hj => other j (fun hk => hj hk)) (fun r hr => by
      simp only [List.mem_cons, List.not_mem_nil, or_false] at hr
      rcases hr with rfl | rfl | rfl | rfl | rfl
      · exact t0
      · exact t1
      · exact t2
      · exact t3
      · exact t4)
    refine lay_num ((other 2 (by decide)).trans E.h2) t4 f4 (E.bx.next q) (fun j => (q.2 _).trans (E.fz j)) (fun x' h1 h2 => ?_)
    rw [hA]
    exact hR x x' v2 v4 q h1 h2
set_option maxHeartbeats 2000000 in
theorem rd7_any (v : Value) (X : RNum) (w : World) (hx : NumAt w v X) (hf : fitsD X) : Calls Try.prog 63 #[v] w fun e w' => ∃ v', e = .returned v' ∧ NumAt w' v' (numOf Ieee.double (roundD X)) ∧ Q w w' := by
  obtain ⟨k, s, p, L, C, e, m, rfl⟩ := hx.made
  have HX : Hid (NumAt w (num5 k s p L C e m) X) := hx
  have HF : Hid (fitsD X) := hf
  clear hx hf
  go_enter Try.func63, Try.ntmps63
  go_wp2_with fail
  refine (f64_any _).mono ?_
  rintro e' w1 ⟨rfl, q1⟩
  have b1 : Hid (Box5 w1 w.heap.size k s p L C e m) := (Box5.mk (by simp [go_sem]) (by simp [go_sem]) (by simp [go_sem]) (by simp [go_sem]) (by simp [go_sem]) : Box5 ((w.alloc (.cells #[.int .i64 k, .bool s, .slice p L C, .int .i64 e, .bool m] 38)).alloc zeroNum) w.heap.size k s p L C e m).next q1
  have b2 : Hid (Box5 w1 (w.heap.size + 1) 0 false none 0 0 0 false) := (Box5.mk (by simp [go_sem, zeroNum]) (by simp [go_sem, zeroNum]) (by simp [go_sem, zeroNum]) (by simp [go_sem, zeroNum]) (by simp [go_sem, zeroNum]) : Box5 ((w.alloc (.cells #[.int .i64 k, .bool s, .slice p L C, .int .i64 e, .bool m] 38)).alloc zeroNum) (w.heap.size + 1) 0 false none 0 0 0 false).next q1
  have f2 : Hid (∀ j, w1.frozen? ⟨w.heap.size + 1, j, none⟩ = false) := fun j => (q1.2 _).trans (by simp [go_sem])
  have Q1 : Hid (Q w w1) := (((Q.refl w).cells _ _).cells _ _).trans q1
  have S1 : Hid (w.heap.size + 1 < w1.heap.size) := by have := q1.1.size; simp at this; show _ < _; omega
  clear q1
  go_wp2_with fail
  refine regionRd (V1 := w.heap.size) (V2 := w.heap.size + 1) (V3 := w1.heap.size) (X := X) rfl rfl ⟨rfl, rfl, rfl, ⟨by simp [go_sem], by simp [go_sem]⟩, ?_, HF.out, b2.out.next ((Q.refl _).cells _ _), fun j => (((Q.refl w1).cells _ _).2 _).trans (f2.out j)⟩ ?_
  · exact ⟨k, s, p, L, C, e, m, b1.out.next ((Q.refl _).cells _ _), ((Q1.out.cells _ _).num HX.out)⟩
  · intro x x' v2 v4 hq hl hn
    have HQ : Hid (Q w x') := hl.q w ((Q1.out.cells _ _).trans hq) (by omega)
    obtain ⟨k', s', p', L', C', e', m', ⟨c0, c1, c2, c3, c4⟩, hn⟩ := hn
    have HN : Hid (NumAt x' (num5 k' s' p' L' C' e' m') (numOf Ieee.double (roundD X))) := hn
    clear hn hl hq b1 b2 f2 S1
    simp only [putAll]
    go_wp2_with fail
    refine bodyPost_ret (v := num5 k' s' p' L' C' e' m') (by simp [results, Try.results63, go_sem, num5, c0, c1, c2, c3, c4]) rfl ⟨_, rfl, HN.out, HQ.out⟩
/-- The box of a function's answer, laid over. -/
theorem five_set {x : World} {V : Nat} {k0 : Int} {s0 : Bool} {p0 : Option Addr} {L0 C0 : Nat} {e0 : Int} {m0 : Bool} (bx : Box5 x V k0 s0 p0 L0 C0 e0 m0) (k : Int) (s : Bool) (p : Option Addr) (L C : Nat) (e : Int) (m : Bool) :
    (∀ v X, NumAt x v X → NumAt (((((x.setCell ⟨V, 0, none⟩ (.int .i64 k)).setCell ⟨V, 1, none⟩ (.bool s)).setCell ⟨V, 2, none⟩ (.slice p L C)).setCell ⟨V, 3, none⟩ (.int .i64 e)).setCell ⟨V, 4, none⟩ (.bool m)) v X) ∧
    (∀ w, Q w x → w.heap.size ≤ V → Q w (((((x.setCell ⟨V, 0, none⟩ (.int .i64 k)).setCell ⟨V, 1, none⟩ (.bool s)).setCell ⟨V, 2, none⟩ (.slice p L C)).setCell ⟨V, 3, none⟩ (.int .i64 e)).setCell ⟨V, 4, none⟩ (.bool m))) := by
  refine ⟨fun v X h => numAt_but h bx.c0 (fun y hy => ?_), fun w q hw => ((((q.set hw _).set hw _).set hw _).set hw _).set hw _⟩
  have hn : ∀ j, (⟨V, j, none⟩ : Addr) ≠ y := fun j e => hy (by rw [← e])
  rw [World.cell?_setCell_other _ _ _ _ (hn _), World.cell?_setCell_other _ _ _ _ (hn _), World.cell?_setCell_other _ _ _ _ (hn _), World.cell?_setCell_other _ _ _ _ (hn _), World.cell?_setCell_other _ _ _ _ (hn _)]
theorem zero_box (w : World) : Box5 (w.alloc (.cells #[.int .i64 0, .bool false, .slice none 0 0, .int .i64 0, .bool false] 38)) w.heap.size 0 false none 0 0 0 false ∧ ∀ j, (w.alloc (.cells #[.int .i64 0, .bool false, .slice none 0 0, .int .i64 0, .bool false] 38)).frozen? ⟨w.heap.size, j, none⟩ = false :=
  ⟨⟨by simp [go_sem], by simp [go_sem], by simp [go_sem], by simp [go_sem], by simp [go_sem]⟩, fun j => by simp [go_sem]⟩
/-- A box of an answer, as it stays. -/
structure ABox (w x : World) (V : Nat) : Prop where
  q : Q w x
  b : Box5 x V 0 false none 0 0 0 false
  f : ∀ j, x.frozen? ⟨V, j, none⟩ = false
  v : w.heap.size ≤ V
theorem ABox.next {w x y : World} {V : Nat} (h : ABox w x V) (q : Q x y) : ABox w y V := ⟨h.q.trans q, h.b.next q, fun j => (q.2 _).trans (h.f j), h.v⟩
theorem fits_single (a : Nat) : fitsD (numOf Ieee.single a) := by
  rw [numOf_datum]
  rcases Nat.lt_trichotomy (rung32 a) 2139095040 with h | h | h
  · rw [read_fin32 h]
    have hp : plc32 (rung32 a) ≤ 253 := by unfold plc32; omega
    have hm := blen_le (k := 24) (show mag32 (rung32 a) < 2 ^ 24 from mag_lt32 _)
    exact ⟨by omega, by omega, by omega, fun h => by cases h⟩
  · rw [read_inf32 h]; exact trivial
  · rw [read_nan32 h]; exact trivial
set_option maxHeartbeats 2000000 in
theorem num7_any (a : Nat) (ha : a < 4294967296) (w : World) : Calls Try.prog 33 #[.int .u32 (a : Int)] w fun e w' => ∃ v', e = .returned v' ∧ NumAt w' v' (numOf Ieee.double (wideW a)) ∧ Q w w' := by
  have ew : IntKind.u64.wrap (a : Int) = a := by rw [IntKind.wrap_u64]; omega
  go_enter Try.func33, Try.ntmps33
  go_wp2_with fail
  have hB : Hid (ABox w _ w.heap.size) := ⟨(Q.refl w).cells _ _, (zero_box w).1, (zero_box w).2, Nat.le_refl _⟩
  generalize w.alloc (.cells #[.int .i64 0, .bool false, .slice none 0 0, .int .i64 0, .bool false] 38) = wz at hB ⊢
  refine (f32_any _).mono ?_
  rintro e' w1 ⟨rfl, q1⟩
  replace hB : Hid (ABox w w1 w.heap.size) := hB.out.next q1
  clear q1
  go_wp2_with fail
  refine (of32_any a _ ha).mono ?_
  rintro e' w2 ⟨v, rfl, hv, q2⟩
  replace hB : Hid (ABox w w2 w.heap.size) := hB.out.next q2
  clear q2
  go_wp2_with fail
  refine (rd7_any _ _ _ hv (fits_single a)).mono ?_
  rintro e' w3 ⟨v, rfl, hv, q3⟩
  replace hB : Hid (ABox w w3 w.heap.size) := hB.out.next q3
  clear q3
  rw [wide_told] at hv
  obtain ⟨k, s, p, L, C, e, m, rfl⟩ := hv.made
  obtain ⟨h1, h2⟩ := five_set hB.out.b k s p L C e m
  have HN : Hid _ := h1 _ _ hv
  have HQ : Hid _ := h2 _ hB.out.q hB.out.v
  clear h1 h2 hv
  obtain ⟨c0, c1, c2, c3, c4⟩ := hB.out.b
  have hf := hB.out.f
  clear hB
  go_wp2_with fail
  refine bodyPost_ret (v := .agg #[.int .i64 k, .bool s, .slice p L C, .int .i64 e, .bool m]) (by simp [results, Try.results33, go_sem, c0, c1, c2, c3, c4]) rfl ⟨_, rfl, HN.out, HQ.out⟩
theorem self64 {r : Nat} (h : r < 9218868437227405312) : rungOf Ieee.double (mag64 r) (-1074 + (plc64 r : Int)) = r := by
  by_cases h0 : r = 0
  · subst h0; rw [show mag64 0 = 0 from by decide, rungOf_zero]
  · have hm1 := mag_lt64 r
    have hm : mag64 r ≠ 0 := by
      intro e
      have := val_pos64 (r := r) (by omega)
      unfold val64 at this; rw [e, Nat.zero_mul] at this; omega
    have hp : plc64 r ≤ 2045 := by unfold plc64; omega
    have hr : mag64 r + plc64 r * 4503599627370496 = r := by unfold mag64 plc64; omega
    unfold rungOf
    rw [if_neg hm]
    have hl : (mag64 r).log2 ≤ 52 := by
      have := (Nat.log2_lt hm).2 (show mag64 r < 2 ^ 53 from hm1)
      omega
    have e : lastOf Ieee.double (mag64 r) (-1074 + (plc64 r : Int)) = -1074 + (plc64 r : Int) := by
      unfold lastOf
      rw [least64, show (Ieee.double.fractionBits : Int) = 52 from rfl]
      rcases Nat.eq_zero_or_pos (plc64 r) with g | g
      · rw [g]; omega
      · have h2 : 52 ≤ (mag64 r).log2 := (Nat.le_log2 hm).2 (mag_ge64 g)
        omega
    rw [e, least64, binade64, inf64, Int.sub_self]
    have e2 : rz (mag64 r) 0 = mag64 r := by
      have := rz_nat (mag64 r) 0
      rw [Nat.pow_zero, Nat.mul_one] at this
      exact this
    rw [e2, show (-1074 + (plc64 r : Int) - -1074).toNat = plc64 r by omega, Nat.min_eq_left (by omega)]
    omega
theorem round_num {A : Nat} (hA : A < 18446744073709551616) : roundD (numOf Ieee.double A) = canW A := by
  rw [numOf_datum]
  unfold canW
  rcases Nat.lt_trichotomy (rung64 A) 9218868437227405312 with h | h | h
  · rw [nan64_rung, decide_eq_false (by omega), if_neg (by decide), read_fin64 h]
    show roundD (.fin (sgn64 A) (mag64 (rung64 A)) (-1074 + (plc64 (rung64 A) : Int)) false) = A
    rw [roundD_fin', nearest_rung, self64 h, ← word_of64 hA]
  · rw [nan64_rung, decide_eq_false (by omega), if_neg (by decide), read_inf64 h]
    show Ieee.double.word (sgn64 A) 9218868437227405312 = A
    rw [← h, ← word_of64 hA]
  · rw [nan64_rung, decide_eq_true h, if_pos rfl, read_nan64 h]
    rfl
theorem dbl_fits1 {A : Nat} : fitsD (numOf Ieee.double A) := by
  have h := dblR_of A
  generalize numOf Ieee.double A = X at h
  cases X using RNum.rec3 with
  | nan => exact trivial
  | inf s => exact trivial
  | fin s n e m =>
    obtain ⟨h1, h2, h3, rfl⟩ := h
    have := blen_le (k := 53) h1
    exact ⟨by omega, by omega, by omega, fun h => by cases h⟩
theorem add_link (A B : Nat) : roundD (plusR (numOf Ieee.double A) (numOf Ieee.double B)) = opT .add A B := add64_told A B
theorem opp_datum (d : Ieee.Datum) : oppR (datumR d) = datumR d.opposite := by cases d <;> rfl
theorem sub_link (A B : Nat) : roundD (plusR (numOf Ieee.double A) (oppR (numOf Ieee.double B))) = opT .sub A B := by
  rw [numOf_datum, numOf_datum, opp_datum, sum_opt, roundD_opt]
  exact (told64_eq _).symm
theorem dblR_opp {x : RNum} (h : dblR x) : dblR (oppR x) := by cases x using RNum.rec3 <;> exact h
theorem num_opp {w : World} {k : Int} {s : Bool} {p : Option Addr} {L C : Nat} {e : Int} {m : Bool} {X : RNum} (h : NumAt w (.agg #[.int .i64 k, .bool s, .slice p L C, .int .i64 e, .bool m]) X) : NumAt w (.agg #[.int .i64 k, .bool (!s), .slice p L C, .int .i64 e, .bool m]) (oppR X) := by
  cases X using RNum.rec3 with
  | nan =>
    obtain ⟨b, e', m', h⟩ := h
    simp only [Value.agg.injEq, Array.mk.injEq, List.cons.injEq, Value.int.injEq, Value.bool.injEq, Value.slice.injEq] at h
    obtain ⟨⟨_, rfl⟩, rfl, ⟨rfl, rfl, rfl⟩, ⟨_, rfl⟩, rfl, _⟩ := h
    exact ⟨_, _, _, rfl⟩
  | inf t =>
    obtain ⟨e', m', h⟩ := h
    simp only [Value.agg.injEq, Array.mk.injEq, List.cons.injEq, Value.int.injEq, Value.bool.injEq, Value.slice.injEq] at h
    obtain ⟨⟨_, rfl⟩, rfl, ⟨rfl, rfl, rfl⟩, ⟨_, rfl⟩, rfl, _⟩ := h
    exact ⟨_, _, rfl⟩
  | fin t n e' m' =>
    obtain ⟨nv, h, hn⟩ := h
    simp only [Value.agg.injEq, Array.mk.injEq, List.cons.injEq, Value.int.injEq, Value.bool.injEq] at h
    obtain ⟨⟨_, rfl⟩, rfl, rfl, ⟨_, rfl⟩, rfl, _⟩ := h
    exact ⟨_, rfl, hn⟩
theorem num_shf {w : World} {k : Int} {s : Bool} {p : Option Addr} {L C : Nat} {e e2 : Int} {m : Bool} {X : RNum} (n : Int) (h : NumAt w (.agg #[.int .i64 k, .bool s, .slice p L C, .int .i64 e, .bool m]) X) (he : dblR X → e2 = e + n ∨ X = .nan ∨ ∃ s, X = .inf s) (hd : dblR X) : NumAt w (.agg #[.int .i64 k, .bool s, .slice p L C, .int .i64 e2, .bool m]) (shfR n X) := by
  cases X using RNum.rec3 with
  | nan =>
    obtain ⟨b, e', m', h⟩ := h
    simp only [Value.agg.injEq, Array.mk.injEq, List.cons.injEq, Value.int.injEq, Value.bool.injEq, Value.slice.injEq] at h
    obtain ⟨⟨_, rfl⟩, rfl, ⟨rfl, rfl, rfl⟩, ⟨_, rfl⟩, rfl, _⟩ := h
    exact ⟨_, _, _, rfl⟩
  | inf t =>
    obtain ⟨e', m', h⟩ := h
    simp only [Value.agg.injEq, Array.mk.injEq, List.cons.injEq, Value.int.injEq, Value.bool.injEq, Value.slice.injEq] at h
    obtain ⟨⟨_, rfl⟩, rfl, ⟨rfl, rfl, rfl⟩, ⟨_, rfl⟩, rfl, _⟩ := h
    exact ⟨_, _, rfl⟩
  | fin t n' e' m' =>
    obtain ⟨nv, h, hn⟩ := h
    simp only [Value.agg.injEq, Array.mk.injEq, List.cons.injEq, Value.int.injEq, Value.bool.injEq] at h
    obtain ⟨⟨_, rfl⟩, rfl, rfl, ⟨_, rfl⟩, rfl, _⟩ := h
    rcases he hd with he | he | ⟨_, he⟩
    · subst he; exact ⟨_, rfl, hn⟩
    · cases he
    · cases he
theorem num_exp {w : World} {k : Int} {s : Bool} {p : Option Addr} {L C : Nat} {e : Int} {m : Bool} {X : RNum} (h : NumAt w (.agg #[.int .i64 k, .bool s, .slice p L C, .int .i64 e, .bool m]) X) (hd : dblR X) : (-1074 ≤ e ∧ e ≤ 1000) ∨ X = .nan ∨ ∃ s, X = .inf s := by
  cases X using RNum.rec3 with
  | nan => exact Or.inr (Or.inl rfl)
  | inf t => exact Or.inr (Or.inr ⟨t, rfl⟩)
  | fin t n' e' m' =>
    obtain ⟨nv, h, hn⟩ := h
    simp only [Value.agg.injEq, Array.mk.injEq, List.cons.injEq, Value.int.injEq, Value.bool.injEq] at h
    obtain ⟨⟨_, rfl⟩, rfl, rfl, ⟨_, rfl⟩, rfl, _⟩ := h
    exact Or.inl ⟨hd.2.1, hd.2.2.1⟩
set_option maxHeartbeats 2000000 in
theorem plus7_any (va vb : Value) (X Y : RNum) (w : World) (hx : NumAt w va X) (hy : NumAt w vb Y) (dx : dblR X) (dy : dblR Y) : Calls Try.prog 34 #[va, vb] w fun e w' => ∃ v', e = .returned v' ∧ NumAt w' v' (numOf Ieee.double (roundD (plusR X Y))) ∧ Q w w' := by
  have hf := dbl_fits dx dy
  have sx := dblR_small dx
  have sy := dblR_small dy
  obtain ⟨k, s, p, L, C, e, m, rfl⟩ := hx.made
  obtain ⟨k1, s1, p1, L1, C1, e1, m1, rfl⟩ := hy.made
  have HX : Hid _ := hx
  have HY : Hid _ := hy
  clear hx hy dx dy
  go_enter Try.func34, Try.ntmps34
  go_wp2_with fail
  have hB : Hid (ABox w _ (w.heap.size + 1 + 1)) := ⟨(((Q.refl w).cells _ _).cells _ _).cells _ _, by have := (zero_box ((w.alloc (.cells #[.int .i64 k, .bool s, .slice p L C, .int .i64 e, .bool m] 38)).alloc (.cells #[.int .i64 k1, .bool s1, .slice p1 L1 C1, .int .i64 e1, .bool m1] 38))).1; simpa using this, by have := (zero_box ((w.alloc (.cells #[.int .i64 k, .bool s, .slice p L C, .int .i64 e, .bool m] 38)).alloc (.cells #[.int .i64 k1, .bool s1, .slice p1 L1 C1, .int .i64 e1, .bool m1] 38))).2; simpa using this, by omega⟩
  generalize ((w.alloc (.cells #[.int .i64 k, .bool s, .slice p L C, .int .i64 e, .bool m] 38)).alloc (.cells #[.int .i64 k1, .bool s1, .slice p1 L1 C1, .int .i64 e1, .bool m1] 38)).alloc (.cells #[.int .i64 0, .bool false, .slice none 0 0, .int .i64 0, .bool false] 38) = wz at hB ⊢
  refine (plusnum_any _ _ _ _ _ (hB.out.q.num HX.out) (hB.out.q.num HY.out) sx sy).mono ?_
  rintro e' w2 ⟨v, rfl, hv, q2⟩
  replace hB : Hid (ABox w w2 (w.heap.size + 1 + 1)) := hB.out.next q2
  clear q2 HX HY
  go_wp2_with fail
  refine (rd7_any _ _ _ hv hf).mono ?_
  rintro e' w3 ⟨v, rfl, hv, q3⟩
  replace hB : Hid (ABox w w3 (w.heap.size + 1 + 1)) := hB.out.next q3
  clear q3 hf
  obtain ⟨k2, s2, p2, L2, C2, e2, m2, rfl⟩ := hv.made
  obtain ⟨h1, h2⟩ := five_set hB.out.b k2 s2 p2 L2 C2 e2 m2
  have HN : Hid _ := h1 _ _ hv
  have HQ : Hid _ := h2 _ hB.out.q hB.out.v
  clear h1 h2 hv
  obtain ⟨c0, c1, c2, c3, c4⟩ := hB.out.b
  have hf := hB.out.f
  clear hB
  go_wp2_with fail
  refine bodyPost_ret (v := .agg #[.int .i64 k2, .bool s2, .slice p2 L2 C2, .int .i64 e2, .bool m2]) (by simp [results, Try.results34, go_sem, c0, c1, c2, c3, c4]) rfl ⟨_, rfl, HN.out, HQ.out⟩
set_option maxHeartbeats 2000000 in
theorem less7_any (va vb : Value) (X Y : RNum) (w : World) (hx : NumAt w va X) (hy : NumAt w vb Y) (dx : dblR X) (dy : dblR Y) : Calls Try.prog 37 #[va, vb] w fun e w' => ∃ v', e = .returned v' ∧ NumAt w' v' (numOf Ieee.double (roundD (plusR X (oppR Y)))) ∧ Q w w' := by
  have dy' := dblR_opp dy
  obtain ⟨k, s, p, L, C, e, m, rfl⟩ := hx.made
  obtain ⟨k1, s1, p1, L1, C1, e1, m1, rfl⟩ := hy.made
  have HX : Hid _ := hx
  have HY : Hid _ := num_opp hy
  have HD : Hid (dblR X ∧ dblR (oppR Y)) := ⟨dx, dy'⟩
  clear hx hy dx dy dy'
  go_enter Try.func37, Try.ntmps37
  go_wp2_with fail
  have hB : Hid (ABox w _ (w.heap.size + 1 + 1)) := ⟨(((Q.refl w).cells _ _).cells _ _).cells _ _, by have := (zero_box ((w.alloc (.cells #[.int .i64 k, .bool s, .slice p L C, .int .i64 e, .bool m] 38)).alloc (.cells #[.int .i64 k1, .bool (!s1), .slice p1 L1 C1, .int .i64 e1, .bool m1] 38))).1; simpa using this, by have := (zero_box ((w.alloc (.cells #[.int .i64 k, .bool s, .slice p L C, .int .i64 e, .bool m] 38)).alloc (.cells #[.int .i64 k1, .bool (!s1), .slice p1 L1 C1, .int .i64 e1, .bool m1] 38))).2; simpa using this, by omega⟩
  generalize ((w.alloc (.cells #[.int .i64 k, .bool s, .slice p L C, .int .i64 e, .bool m] 38)).alloc (.cells #[.int .i64 k1, .bool (!s1), .slice p1 L1 C1, .int .i64 e1, .bool m1] 38)).alloc (.cells #[.int .i64 0, .bool false, .slice none 0 0, .int .i64 0, .bool false] 38) = wz at hB ⊢
  refine (plus7_any _ _ X (oppR Y) _ (hB.out.q.num HX.out) (hB.out.q.num HY.out) HD.out.1 HD.out.2).mono ?_
  rintro e' w3 ⟨v, rfl, hv, q3⟩
  replace hB : Hid (ABox w w3 (w.heap.size + 1 + 1)) := hB.out.next q3
  clear q3 HX HY HD
  obtain ⟨k2, s2, p2, L2, C2, e2, m2, rfl⟩ := hv.made
  obtain ⟨h1, h2⟩ := five_set hB.out.b k2 s2 p2 L2 C2 e2 m2
  have HN : Hid _ := h1 _ _ hv
  have HQ : Hid _ := h2 _ hB.out.q hB.out.v
  clear h1 h2 hv
  obtain ⟨c0, c1, c2, c3, c4⟩ := hB.out.b
  have hf := hB.out.f
  clear hB
  go_wp2_with fail
  refine bodyPost_ret (v := .agg #[.int .i64 k2, .bool s2, .slice p2 L2 C2, .int .i64 e2, .bool m2]) (by simp [results, Try.results37, go_sem, c0, c1, c2, c3, c4]) rfl ⟨_, rfl, HN.out, HQ.out⟩
theorem shf_fits {X : RNum} (h : dblR X) (n : Int) (n0 : -100 ≤ n) (n1 : n ≤ 100) : fitsD (shfR n X) := by
  cases X using RNum.rec3 with
  | nan => exact trivial
  | inf s => exact trivial
  | fin s k e m =>
    obtain ⟨h1, h2, h3, rfl⟩ := h
    have := blen_le (k := 53) h1
    exact ⟨by omega, by omega, by omega, fun h => by cases h⟩
set_option maxHeartbeats 2000000 in
theorem times7_any (va : Value) (X : RNum) (n : Int) (n0 : -100 ≤ n) (n1 : n ≤ 100) (w : World) (hx : NumAt w va X) (dx : dblR X) : Calls Try.prog 35 #[va, .int .i64 n] w fun e w' => ∃ v', e = .returned v' ∧ NumAt w' v' (numOf Ieee.double (roundD (shfR n X))) ∧ Q w w' := by
  have hf := shf_fits dx n n0 n1
  obtain ⟨k, s, p, L, C, e, m, rfl⟩ := hx.made
  obtain ⟨e3, he3⟩ : ∃ e3, e3 = wrap64 (e + n) := ⟨_, rfl⟩
  have HX : Hid (NumAt w (.agg #[.int .i64 k, .bool s, .slice p L C, .int .i64 e3, .bool m]) (shfR n X)) := num_shf n hx (fun _ => by
    rcases num_exp hx dx with h | h
    · left; rw [he3]; unfold wrap64; omega
    · right; exact h) dx
  have he4 : IntKind.i64.wrap (e + n) = e3 := by rw [he3, IntKind.wrap_i64]; unfold wrap64; omega
  replace he3 := he3.symm
  have HF : Hid _ := hf
  clear hx dx hf n0 n1
  go_enter Try.func35, Try.ntmps35
  go_wp2_with fail
  have hB : Hid (ABox w _ (w.heap.size + 1)) := ⟨((Q.refl w).cells _ _).cells _ _, by have := (zero_box (w.alloc (.cells #[.int .i64 k, .bool s, .slice p L C, .int .i64 e3, .bool m] 38))).1; simpa using this, fun j => by simp [go_sem], by omega⟩
  generalize (w.alloc (.cells #[.int .i64 k, .bool s, .slice p L C, .int .i64 e3, .bool m] 38)).alloc (.cells #[.int .i64 0, .bool false, .slice none 0 0, .int .i64 0, .bool false] 38) = wz at hB ⊢
  refine (rd7_any _ _ _ (hB.out.q.num HX.out) HF.out).mono ?_
  rintro e' w3 ⟨v, rfl, hv, q3⟩
  replace hB : Hid (ABox w w3 (w.heap.size + 1)) := hB.out.next q3
  clear q3 HX HF
  obtain ⟨k2, s2, p2, L2, C2, e2, m2, rfl⟩ := hv.made
  obtain ⟨h1, h2⟩ := five_set hB.out.b k2 s2 p2 L2 C2 e2 m2
  have HN : Hid _ := h1 _ _ hv
  have HQ : Hid _ := h2 _ hB.out.q hB.out.v
  clear h1 h2 hv
  obtain ⟨c0, c1, c2, c3, c4⟩ := hB.out.b
  have hf := hB.out.f
  clear hB
  go_wp2_with fail
  refine bodyPost_ret (v := .agg #[.int .i64 k2, .bool s2, .slice p2 L2 C2, .int .i64 e2, .bool m2]) (by simp [results, Try.results35, go_sem, c0, c1, c2, c3, c4]) rfl ⟨_, rfl, HN.out, HQ.out⟩
set_option maxHeartbeats 2000000 in
theorem told7_any (va : Value) (A : Nat) (hA : A < 18446744073709551616) (w : World) (hx : NumAt w va (numOf Ieee.double A)) : Calls Try.prog 36 #[va] w fun e w' => e = .returned (.int .u32 (narW A : Nat)) ∧ Q w w' := by
  obtain ⟨k, s, p, L, C, e, m, rfl⟩ := hx.made
  have HX : Hid _ := hx
  have HA : Hid (canW A < 18446744073709551616) := by show _ < _; rw [← round_num hA]; exact roundD_lt _
  have HF : Hid (fitsD (numOf Ieee.double A)) := dbl_fits1
  have HR : Hid (roundD (numOf Ieee.double A) = canW A) := round_num hA
  clear hx
  go_enter Try.func36, Try.ntmps36
  go_wp2_with fail
  have HQ : Hid (Q w _) := (Q.refl w).cells #[.int .i64 k, .bool s, .slice p L C, .int .i64 e, .bool m] 38
  have d0 : (w.alloc (.cells #[.int .i64 k, .bool s, .slice p L C, .int .i64 e, .bool m] 38)).cell? ⟨w.heap.size, 0, none⟩ = some (.int .i64 k) := by simp [go_sem]
  have d1 : (w.alloc (.cells #[.int .i64 k, .bool s, .slice p L C, .int .i64 e, .bool m] 38)).cell? ⟨w.heap.size, 1, none⟩ = some (.bool s) := by simp [go_sem]
  have d2 : (w.alloc (.cells #[.int .i64 k, .bool s, .slice p L C, .int .i64 e, .bool m] 38)).cell? ⟨w.heap.size, 2, none⟩ = some (.slice p L C) := by simp [go_sem]
  have d3 : (w.alloc (.cells #[.int .i64 k, .bool s, .slice p L C, .int .i64 e, .bool m] 38)).cell? ⟨w.heap.size, 3, none⟩ = some (.int .i64 e) := by simp [go_sem]
  have d4 : (w.alloc (.cells #[.int .i64 k, .bool s, .slice p L C, .int .i64 e, .bool m] 38)).cell? ⟨w.heap.size, 4, none⟩ = some (.bool m) := by simp [go_sem]
  generalize w.alloc (.cells #[.int .i64 k, .bool s, .slice p L C, .int .i64 e, .bool m] 38) = wz at HQ d0 d1 d2 d3 d4 ⊢
  replace d0 := qw_cell d0
  replace d1 := qw_cell d1
  replace d2 := qw_cell d2
  replace d3 := qw_cell d3
  replace d4 := qw_cell d4
  have n0 := qw_some wz
  have KF : Hid (∀ n : QW wz, Calls Try.prog 65 #[] n.x fun e w' => e = .returned (.agg #[.int .i64 52, .int .i64 11]) ∧ Q n.x w') := fun n => f64_any n.x
  have KR : Hid (∀ n : QW wz, Calls Try.prog 66 #[.agg #[.int .i64 52, .int .i64 11], .agg #[.int .i64 k, .bool s, .slice p L C, .int .i64 e, .bool m]] n.x fun e w' => e = .returned (.int .u64 (canW A : Nat)) ∧ Q n.x w') := fun n => by rw [← HR.out]; exact round64_any _ _ n.x ((HQ.out.trans n.q).num HX.out) HF.out
  have KN : Hid (∀ n : QW wz, Calls Try.prog 64 #[.int .u64 (canW A : Nat)] n.x fun e w' => e = .returned (.int .u32 (narW A : Nat)) ∧ Q n.x w') := fun n => by rw [← narW_can]; exact rnarrow_any (canW A) HA.out n.x
  refine wp_region_quiet_Q (by kernel_rfl) (by kernel_rfl) ?_
  repeat (first | go_big_quiet_step (first | (go_at_call 65; exact calls_qw (KF.out _)) | (go_at_call 66; exact calls_qw (KR.out _)) | (go_at_call 64; exact calls_qw (KN.out _))) | quiet_step (first | (go_at_call 65; exact calls_qw (KF.out _)) | (go_at_call 66; exact calls_qw (KR.out _)) | (go_at_call 64; exact calls_qw (KN.out _))))
  refine wpQuiet_nil ?_
  intro w4 hw'
  have hq4 : Hid (Q w w4) := HQ.out.trans (qw_out hw')
  clear hw' d0 d1 d2 d3 d4 n0 KF KR KN HQ HX HA HF HR
  go_wp2_with fail
  go_ret
  exact ⟨rfl, hq4.out⟩
end Go.Proofs.Ytedafbbpcpebbaa
