/- The document's binary64: numbers rounded; YCC. -/
import Derived.Test.YtedafbbpcpebbabGaaa4eaf3
import Derived.Test.YtedafbbpcpebbabG622a8be8
import Derived.Test.YtedafbbpcpebbabGdc0afdbf
namespace Go.Proofs.Ytedafbbpcpebbab
open Go.RowKit
set_option linter.unusedVariables false
set_option linter.unusedSimpArgs false

theorem roundD_lt (X : RNum) : roundD X < 18446744073709551616 := by
  cases X using RNum.rec3 with
  | nan => show 9221120237041090560 < 18446744073709551616; omega
  | inf s => exact word_lt_64 (by omega)
  | fin s n e m =>
    refine word_lt_64 ?_
    have := rungOf_le Ieee.double (2 * n + m.toNat) (e - 1)
    rw [inf64] at this; omega
def oRd_0 : Oper := { dst := some 5, op := .load 51 (.tmp 3), type := 51, pos := "halideref7.go:17", after := #[], guard := none }
def oRd_1 : Oper := { dst := some 6, op := .load 51 (.tmp 3), type := 51, pos := "halideref7.go:17", after := #[], guard := none }
def oRd_2 : Oper := { dst := some 7, op := .load 32 (.tmp 1), type := 32, pos := "halideref7.go:17", after := #[], guard := none }
def oRd_3 : Oper := { dst := some 8, op := .call { callee := .value (.func 50), args := #[.tmp 6, .tmp 7], argTypes := #[51, 32] }, type := 54, pos := "halideref7.go:17", after := #[⟨1, .data⟩, ⟨2, .data⟩], guard := none }
def oRd_4 : Oper := { dst := some 9, op := .call { callee := .value (.func 29), args := #[.tmp 5, .tmp 8], argTypes := #[51, 54] }, type := 32, pos := "halideref7.go:17", after := #[⟨0, .data⟩, ⟨3, .data⟩, ⟨3, .chain⟩], guard := none }
def oRd_5 : Oper := { dst := none, op := .store 32 (.tmp 2) (.tmp 9), type := 0, pos := "halideref7.go:17", after := #[⟨4, .data⟩, ⟨4, .chain⟩, ⟨0, .phase⟩, ⟨1, .phase⟩, ⟨2, .phase⟩, ⟨3, .phase⟩, ⟨4, .phase⟩], guard := none }
def opsRd : List Oper := [oRd_0, oRd_1, oRd_2, oRd_3, oRd_4, oRd_5]
def sRd : List Nat := [5, 6, 7, 8, 9]
def spRd (V1 V2 V3 : Nat) (X : RNum) : List Spec := [spV formV, spV formV, numQ X, spV (.int .u64 (roundD X : Nat)), numQ (numOf Ieee.double (roundD X))]
structure EnvRd (a0 : Act) (w : World) (V1 V2 V3 : Nat) (X : RNum) : Prop where
  h3 : a0.tmps[3]? = some (ptrV V3)
  h1 : a0.tmps[1]? = some (ptrV V1)
  h2 : a0.tmps[2]? = some (ptrV V2)
  fb : FBox w V3
  nb : NBox w V1 X
  hf : fitsD X
  bx : Box5 w V2 0 false none 0 0 0 false
  fz : ∀ j, w.frozen? ⟨V2, j, none⟩ = false
theorem yRd_0 {a0 : Act} {w : World} {V1 V2 V3 : Nat} {X : RNum} (E : EnvRd a0 w V1 V2 V3 X) {R : Exit → Act → World → Prop} {a : Act} {x : World} (q : Q w x) (oth : ∀ j, j ∉ sRd → a.tmps[j]? = a0.tmps[j]?) (dep : ∀ ed ∈ oRd_0.after, Region.binds .any ed = true → ∀ t', sRd[ed.on]? = some t' → ∃ v, a.tmps[t']? = some v ∧ specAt (spRd V1 V2 V3 X) ed.on v x) : Yld Try.prog R oRd_0 a x 5 (fun v x' => specAt (spRd V1 V2 V3 X) 0 v x' ∧ (0 ∈ ([] : List Nat) → v = ptrV x.heap.size)) := by
  exact yld_run (x' := x) rfl (run_form (tmp_eval ((oth 3 (by decide)).trans E.h3)) (E.fb.next q)) (Q.refl x) ⟨rfl, fun h => absurd h (by decide)⟩
theorem yRd_1 {a0 : Act} {w : World} {V1 V2 V3 : Nat} {X : RNum} (E : EnvRd a0 w V1 V2 V3 X) {R : Exit → Act → World → Prop} {a : Act} {x : World} (q : Q w x) (oth : ∀ j, j ∉ sRd → a.tmps[j]? = a0.tmps[j]?) (dep : ∀ ed ∈ oRd_1.after, Region.binds .any ed = true → ∀ t', sRd[ed.on]? = some t' → ∃ v, a.tmps[t']? = some v ∧ specAt (spRd V1 V2 V3 X) ed.on v x) : Yld Try.prog R oRd_1 a x 6 (fun v x' => specAt (spRd V1 V2 V3 X) 1 v x' ∧ (1 ∈ ([] : List Nat) → v = ptrV x.heap.size)) := by
  exact yld_run (x' := x) rfl (run_form (tmp_eval ((oth 3 (by decide)).trans E.h3)) (E.fb.next q)) (Q.refl x) ⟨rfl, fun h => absurd h (by decide)⟩
theorem yRd_2 {a0 : Act} {w : World} {V1 V2 V3 : Nat} {X : RNum} (E : EnvRd a0 w V1 V2 V3 X) {R : Exit → Act → World → Prop} {a : Act} {x : World} (q : Q w x) (oth : ∀ j, j ∉ sRd → a.tmps[j]? = a0.tmps[j]?) (dep : ∀ ed ∈ oRd_2.after, Region.binds .any ed = true → ∀ t', sRd[ed.on]? = some t' → ∃ v, a.tmps[t']? = some v ∧ specAt (spRd V1 V2 V3 X) ed.on v x) : Yld Try.prog R oRd_2 a x 7 (fun v x' => specAt (spRd V1 V2 V3 X) 2 v x' ∧ (2 ∈ ([] : List Nat) → v = ptrV x.heap.size)) := by
  obtain ⟨k, s, p, L, C, e, m, b1, b2⟩ := E.nb.next q
  exact yld_run (x' := x) rfl (run_num (tmp_eval ((oth 1 (by decide)).trans E.h1)) b1) (Q.refl x) ⟨b2, fun h => absurd h (by decide)⟩
theorem yRd_3 {a0 : Act} {w : World} {V1 V2 V3 : Nat} {X : RNum} (E : EnvRd a0 w V1 V2 V3 X) {R : Exit → Act → World → Prop} {a : Act} {x : World} (q : Q w x) (oth : ∀ j, j ∉ sRd → a.tmps[j]? = a0.tmps[j]?) (dep : ∀ ed ∈ oRd_3.after, Region.binds .any ed = true → ∀ t', sRd[ed.on]? = some t' → ∃ v, a.tmps[t']? = some v ∧ specAt (spRd V1 V2 V3 X) ed.on v x) : Yld Try.prog R oRd_3 a x 8 (fun v x' => specAt (spRd V1 V2 V3 X) 3 v x' ∧ (3 ∈ ([] : List Nat) → v = ptrV x.heap.size)) := by
  obtain ⟨v1, t1, f1⟩ := dep ⟨1, .data⟩ (by simp [oRd_3]) rfl 6 rfl
  have f1 : v1 = formV := f1
  subst f1
  obtain ⟨v2, t2, f2⟩ := dep ⟨2, .data⟩ (by simp [oRd_3]) rfl 7 rfl
  have f2 : (numQ X).p v2 x := f2
  refine yld_call (enters_of Try.func50 (by kernel_rfl) rfl) (args2 t1 t2) ((round64_any _ _ x f2 E.hf).mono ?_)
  rintro u x' ⟨rfl, q'⟩
  exact ⟨_, rfl, q', rfl, fun h => absurd h (by decide)⟩
theorem yRd_4 {a0 : Act} {w : World} {V1 V2 V3 : Nat} {X : RNum} (E : EnvRd a0 w V1 V2 V3 X) {R : Exit → Act → World → Prop} {a : Act} {x : World} (q : Q w x) (oth : ∀ j, j ∉ sRd → a.tmps[j]? = a0.tmps[j]?) (dep : ∀ ed ∈ oRd_4.after, Region.binds .any ed = true → ∀ t', sRd[ed.on]? = some t' → ∃ v, a.tmps[t']? = some v ∧ specAt (spRd V1 V2 V3 X) ed.on v x) : Yld Try.prog R oRd_4 a x 9 (fun v x' => specAt (spRd V1 V2 V3 X) 4 v x' ∧ (4 ∈ ([] : List Nat) → v = ptrV x.heap.size)) := by
  obtain ⟨v0, t0, f0⟩ := dep ⟨0, .data⟩ (by simp [oRd_4]) rfl 5 rfl
  have f0 : v0 = formV := f0
  subst f0
  obtain ⟨v3, t3, f3⟩ := dep ⟨3, .data⟩ (by simp [oRd_4]) rfl 8 rfl
  have f3 : v3 = (.int .u64 (roundD X : Nat)) := f3
  subst f3
  refine yld_call (enters_of Try.func29 (by kernel_rfl) rfl) (args2 t0 t3) ((of64_any (roundD X) x (roundD_lt X)).mono ?_)
  rintro u x' ⟨v, rfl, h, q'⟩
  exact ⟨v, rfl, q', h, fun h => absurd h (by decide)⟩
theorem hopRd {a0 : Act} {w : World} {V1 V2 V3 : Nat} {X : RNum} (E : EnvRd a0 w V1 V2 V3 X) {R : Exit → Act → World → Prop} : ∀ (i t : Nat) (o : Oper) (a : Act) (x : World), i < 5 → sRd[i]? = some t → opsRd[i]? = some o → Q w x → (∀ j, j ∉ sRd → a.tmps[j]? = a0.tmps[j]?) → (∀ ed ∈ o.after, Region.binds .any ed = true → ∀ t', sRd[ed.on]? = some t' → ∃ v, a.tmps[t']? = some v ∧ specAt (spRd V1 V2 V3 X) ed.on v x) → Yld Try.prog R o a x t (fun v x' => specAt (spRd V1 V2 V3 X) i v x' ∧ (i ∈ ([] : List Nat) → v = ptrV x.heap.size))
  | 0, t, o, a, x, hi, ht, ho, q, oth, dep => by
    have e1 : oRd_0 = o := Option.some.inj ho
    have e2 : 5 = t := Option.some.inj ht
    subst e1 e2
    exact yRd_0 E q oth dep
  | 1, t, o, a, x, hi, ht, ho, q, oth, dep => by
    have e1 : oRd_1 = o := Option.some.inj ho
    have e2 : 6 = t := Option.some.inj ht
    subst e1 e2
    exact yRd_1 E q oth dep
  | 2, t, o, a, x, hi, ht, ho, q, oth, dep => by
    have e1 : oRd_2 = o := Option.some.inj ho
    have e2 : 7 = t := Option.some.inj ht
    subst e1 e2
    exact yRd_2 E q oth dep
  | 3, t, o, a, x, hi, ht, ho, q, oth, dep => by
    have e1 : oRd_3 = o := Option.some.inj ho
    have e2 : 8 = t := Option.some.inj ht
    subst e1 e2
    exact yRd_3 E q oth dep
  | 4, t, o, a, x, hi, ht, ho, q, oth, dep => by
    have e1 : oRd_4 = o := Option.some.inj ho
    have e2 : 9 = t := Option.some.inj ht
    subst e1 e2
    exact yRd_4 E q oth dep
  | i + 5, t, o, a, x, hi, ht, ho, q, oth, dep => absurd hi (by omega)
theorem regionRd {id : Nat} {l : List Oper} {R : Exit → Act → World → Prop} {a0 : Act} {w : World} {V1 V2 V3 : Nat} {X : RNum} (hl : l = opsRd) (hsz : a0.tmps.size = 10) (E : EnvRd a0 w V1 V2 V3 X)
    (hR : ∀ x x' v2 v4, Q w x → Laid x x' V2 → NBox x' V2 (numOf Ieee.double (roundD X)) → R .normal (putAll a0 [(5, formV), (6, formV), (7, v2), (8, .int .u64 (roundD X : Nat)), (9, v4)]) x') :
    (Code.region id l.toArray true).wp Try.prog R a0 w := by
  subst hl
  refine wp_region_facts 5 sRd (specAt (spRd V1 V2 V3 X)) [] (by kernel_rfl) (by decide +kernel) (by decide) rfl (by decide) (fun t ht => ?_) specAt.next (fun i v x hi hf => by cases hi) (hopRd E) (fun a x q size defers other facts apart => ?_)
  · rw [hsz]
    revert t
    decide
  · obtain ⟨v0, t0, f0⟩ := facts 0 5 (by decide) rfl
    have f0 : v0 = formV := f0
    subst f0
    obtain ⟨v1, t1, f1⟩ := facts 1 6 (by decide) rfl
    have f1 : v1 = formV := f1
    subst f1
    obtain ⟨v2, t2, f2⟩ := facts 2 7 (by decide) rfl
    obtain ⟨v3, t3, f3⟩ := facts 3 8 (by decide) rfl
    have f3 : v3 = .int .u64 (roundD X : Nat) := f3
    subst f3
    obtain ⟨v4, t4, f4⟩ := facts 4 9 (by decide) rfl
    have f4 : NumAt x v4 (numOf Ieee.double (roundD X)) := f4
    refine ⟨?_⟩
    show Oper.wp Try.prog oRd_5 a x (fun a' w' => R .normal a' w') R
    unfold oRd_5
    have hA := act_puts (a := a) (a0 := a0) [(5, formV), (6, formV), (7, v2), (8, .int .u64 (roundD X : Nat)), (9, v4)] (by show [5, 6, 7, 8, 9].Nodup; decide) size defers (fun j hj => other j (fun hk => hj hk)) (fun r hr => by
      simp only [List.mem_cons, List.not_mem_nil, or_false] at hr
      rcases hr with rfl | rfl | rfl | rfl | rfl
      · exact t0
      · exact t1
      · exact t2
      · exact t3
      · exact t4)
    refine lay_num ((other 2 (by decide)).trans E.h2) t4 f4 (E.bx.next q) (fun j => (q.2 _).trans (E.fz j)) (fun x' h1 h2 => ?_)
    rw [hA]
    exact hR x x' v2 v4 q h1 h2
/-- The box of a function's answer, laid over. -/
theorem five_set {x : World} {V : Nat} {k0 : Int} {s0 : Bool} {p0 : Option Addr} {L0 C0 : Nat} {e0 : Int} {m0 : Bool} (bx : Box5 x V k0 s0 p0 L0 C0 e0 m0) (k : Int) (s : Bool) (p : Option Addr) (L C : Nat) (e : Int) (m : Bool) :
    (∀ v X, NumAt x v X → NumAt (((((x.setCell ⟨V, 0, none⟩ (.int .i64 k)).setCell ⟨V, 1, none⟩ (.bool s)).setCell ⟨V, 2, none⟩ (.slice p L C)).setCell ⟨V, 3, none⟩ (.int .i64 e)).setCell ⟨V, 4, none⟩ (.bool m)) v X) ∧
    (∀ w, Q w x → w.heap.size ≤ V → Q w (((((x.setCell ⟨V, 0, none⟩ (.int .i64 k)).setCell ⟨V, 1, none⟩ (.bool s)).setCell ⟨V, 2, none⟩ (.slice p L C)).setCell ⟨V, 3, none⟩ (.int .i64 e)).setCell ⟨V, 4, none⟩ (.bool m))) := by
  refine ⟨fun v X h => numAt_but h bx.c0 (fun y hy => ?_), fun w q hw => ((((q.set hw _).set hw _).set hw _).set hw _).set hw _⟩
  have hn : ∀ j, (⟨V, j, none⟩ : Addr) ≠ y := fun j e => hy (by rw [← e])
  rw [World.cell?_setCell_other _ _ _ _ (hn _), World.cell?_setCell_other _ _ _ _ (hn _), World.cell?_setCell_other _ _ _ _ (hn _), World.cell?_setCell_other _ _ _ _ (hn _), World.cell?_setCell_other _ _ _ _ (hn _)]
theorem zero_box (w : World) : Box5 (w.alloc (.cells #[.int .i64 0, .bool false, .slice none 0 0, .int .i64 0, .bool false] 32)) w.heap.size 0 false none 0 0 0 false ∧ ∀ j, (w.alloc (.cells #[.int .i64 0, .bool false, .slice none 0 0, .int .i64 0, .bool false] 32)).frozen? ⟨w.heap.size, j, none⟩ = false :=
  ⟨⟨by simp [go_sem], by simp [go_sem], by simp [go_sem], by simp [go_sem], by simp [go_sem]⟩, fun j => by simp [go_sem]⟩
/-- A box of an answer, as it stays. -/
structure ABox (w x : World) (V : Nat) : Prop where
  q : Q w x
  b : Box5 x V 0 false none 0 0 0 false
  f : ∀ j, x.frozen? ⟨V, j, none⟩ = false
  v : w.heap.size ≤ V
theorem ABox.next {w x y : World} {V : Nat} (h : ABox w x V) (q : Q x y) : ABox w y V := ⟨h.q.trans q, h.b.next q, fun j => (q.2 _).trans (h.f j), h.v⟩
theorem fits_single (a : Nat) : fitsD (numOf Ieee.single a) := by
  rw [numOf_datum]
  rcases Nat.lt_trichotomy (rung32 a) 2139095040 with h | h | h
  · rw [read_fin32 h]
    have hp : plc32 (rung32 a) ≤ 253 := by unfold plc32; omega
    have hm := blen_le (k := 24) (show mag32 (rung32 a) < 2 ^ 24 from mag_lt32 _)
    exact ⟨by omega, by omega, by omega, fun h => by cases h⟩
  · rw [read_inf32 h]; exact trivial
  · rw [read_nan32 h]; exact trivial
theorem self64 {r : Nat} (h : r < 9218868437227405312) : rungOf Ieee.double (mag64 r) (-1074 + (plc64 r : Int)) = r := by
  by_cases h0 : r = 0
  · subst h0; rw [show mag64 0 = 0 from by decide, rungOf_zero]
  · have hm1 := mag_lt64 r
    have hm : mag64 r ≠ 0 := by
      intro e
      have := val_pos64 (r := r) (by omega)
      unfold val64 at this; rw [e, Nat.zero_mul] at this; omega
    have hp : plc64 r ≤ 2045 := by unfold plc64; omega
    have hr : mag64 r + plc64 r * 4503599627370496 = r := by unfold mag64 plc64; omega
    unfold rungOf
    rw [if_neg hm]
    have hl : (mag64 r).log2 ≤ 52 := by
      have := (Nat.log2_lt hm).2 (show mag64 r < 2 ^ 53 from hm1)
      omega
    have e : lastOf Ieee.double (mag64 r) (-1074 + (plc64 r : Int)) = -1074 + (plc64 r : Int) := by
      unfold lastOf
      rw [least64, show (Ieee.double.fractionBits : Int) = 52 from rfl]
      rcases Nat.eq_zero_or_pos (plc64 r) with g | g
      · rw [g]; omega
      · have h2 : 52 ≤ (mag64 r).log2 := (Nat.le_log2 hm).2 (mag_ge64 g)
        omega
    rw [e, least64, binade64, inf64, Int.sub_self]
    have e2 : rz (mag64 r) 0 = mag64 r := by
      have := rz_nat (mag64 r) 0
      rw [Nat.pow_zero, Nat.mul_one] at this
      exact this
    rw [e2, show (-1074 + (plc64 r : Int) - -1074).toNat = plc64 r by omega, Nat.min_eq_left (by omega)]
    omega
theorem round_num {A : Nat} (hA : A < 18446744073709551616) : roundD (numOf Ieee.double A) = canW A := by
  rw [numOf_datum]
  unfold canW
  rcases Nat.lt_trichotomy (rung64 A) 9218868437227405312 with h | h | h
  · rw [nan64_rung, decide_eq_false (by omega), if_neg (by decide), read_fin64 h]
    show roundD (.fin (sgn64 A) (mag64 (rung64 A)) (-1074 + (plc64 (rung64 A) : Int)) false) = A
    rw [roundD_fin', nearest_rung, self64 h, ← word_of64 hA]
  · rw [nan64_rung, decide_eq_false (by omega), if_neg (by decide), read_inf64 h]
    show Ieee.double.word (sgn64 A) 9218868437227405312 = A
    rw [← h, ← word_of64 hA]
  · rw [nan64_rung, decide_eq_true h, if_pos rfl, read_nan64 h]
    rfl
theorem dbl_fits1 {A : Nat} : fitsD (numOf Ieee.double A) := by
  have h := dblR_of A
  generalize numOf Ieee.double A = X at h
  cases X using RNum.rec3 with
  | nan => exact trivial
  | inf s => exact trivial
  | fin s n e m =>
    obtain ⟨h1, h2, h3, rfl⟩ := h
    have := blen_le (k := 53) h1
    exact ⟨by omega, by omega, by omega, fun h => by cases h⟩
theorem add_link (A B : Nat) : roundD (plusR (numOf Ieee.double A) (numOf Ieee.double B)) = opT .add A B := add64_told A B
theorem opp_datum (d : Ieee.Datum) : oppR (datumR d) = datumR d.opposite := by cases d <;> rfl
theorem sub_link (A B : Nat) : roundD (plusR (numOf Ieee.double A) (oppR (numOf Ieee.double B))) = opT .sub A B := by
  rw [numOf_datum, numOf_datum, opp_datum, sum_opt, roundD_opt]
  exact (told64_eq _).symm
theorem dblR_opp {x : RNum} (h : dblR x) : dblR (oppR x) := by cases x using RNum.rec3 <;> exact h
theorem num_opp {w : World} {k : Int} {s : Bool} {p : Option Addr} {L C : Nat} {e : Int} {m : Bool} {X : RNum} (h : NumAt w (.agg #[.int .i64 k, .bool s, .slice p L C, .int .i64 e, .bool m]) X) : NumAt w (.agg #[.int .i64 k, .bool (!s), .slice p L C, .int .i64 e, .bool m]) (oppR X) := by
  cases X using RNum.rec3 with
  | nan =>
    obtain ⟨b, e', m', h⟩ := h
    simp only [Value.agg.injEq, Array.mk.injEq, List.cons.injEq, Value.int.injEq, Value.bool.injEq, Value.slice.injEq] at h
    obtain ⟨⟨_, rfl⟩, rfl, ⟨rfl, rfl, rfl⟩, ⟨_, rfl⟩, rfl, _⟩ := h
    exact ⟨_, _, _, rfl⟩
  | inf t =>
    obtain ⟨e', m', h⟩ := h
    simp only [Value.agg.injEq, Array.mk.injEq, List.cons.injEq, Value.int.injEq, Value.bool.injEq, Value.slice.injEq] at h
    obtain ⟨⟨_, rfl⟩, rfl, ⟨rfl, rfl, rfl⟩, ⟨_, rfl⟩, rfl, _⟩ := h
    exact ⟨_, _, rfl⟩
  | fin t n e' m' =>
    obtain ⟨nv, h, hn⟩ := h
    simp only [Value.agg.injEq, Array.mk.injEq, List.cons.injEq, Value.int.injEq, Value.bool.injEq] at h
    obtain ⟨⟨_, rfl⟩, rfl, rfl, ⟨_, rfl⟩, rfl, _⟩ := h
    exact ⟨_, rfl, hn⟩
theorem num_shf {w : World} {k : Int} {s : Bool} {p : Option Addr} {L C : Nat} {e e2 : Int} {m : Bool} {X : RNum} (n : Int) (h : NumAt w (.agg #[.int .i64 k, .bool s, .slice p L C, .int .i64 e, .bool m]) X) (he : dblR X → e2 = e + n ∨ X = .nan ∨ ∃ s, X = .inf s) (hd : dblR X) : NumAt w (.agg #[.int .i64 k, .bool s, .slice p L C, .int .i64 e2, .bool m]) (shfR n X) := by
  cases X using RNum.rec3 with
  | nan =>
    obtain ⟨b, e', m', h⟩ := h
    simp only [Value.agg.injEq, Array.mk.injEq, List.cons.injEq, Value.int.injEq, Value.bool.injEq, Value.slice.injEq] at h
    obtain ⟨⟨_, rfl⟩, rfl, ⟨rfl, rfl, rfl⟩, ⟨_, rfl⟩, rfl, _⟩ := h
    exact ⟨_, _, _, rfl⟩
  | inf t =>
    obtain ⟨e', m', h⟩ := h
    simp only [Value.agg.injEq, Array.mk.injEq, List.cons.injEq, Value.int.injEq, Value.bool.injEq, Value.slice.injEq] at h
    obtain ⟨⟨_, rfl⟩, rfl, ⟨rfl, rfl, rfl⟩, ⟨_, rfl⟩, rfl, _⟩ := h
    exact ⟨_, _, rfl⟩
  | fin t n' e' m' =>
    obtain ⟨nv, h, hn⟩ := h
    simp only [Value.agg.injEq, Array.mk.injEq, List.cons.injEq, Value.int.injEq, Value.bool.injEq] at h
    obtain ⟨⟨_, rfl⟩, rfl, rfl, ⟨_, rfl⟩, rfl, _⟩ := h
    rcases he hd with he | he | ⟨_, he⟩
    · subst he; exact ⟨_, rfl, hn⟩
    · cases he
    · cases he
theorem num_exp {w : World} {k : Int} {s : Bool} {p : Option Addr} {L C : Nat} {e : Int} {m : Bool} {X : RNum} (h : NumAt w (.agg #[.int .i64 k, .bool s, .slice p L C, .int .i64 e, .bool m]) X) (hd : dblR X) : (-1074 ≤ e ∧ e ≤ 1000) ∨ X = .nan ∨ ∃ s, X = .inf s := by
  cases X using RNum.rec3 with
  | nan => exact Or.inr (Or.inl rfl)
  | inf t => exact Or.inr (Or.inr ⟨t, rfl⟩)
  | fin t n' e' m' =>
    obtain ⟨nv, h, hn⟩ := h
    simp only [Value.agg.injEq, Array.mk.injEq, List.cons.injEq, Value.int.injEq, Value.bool.injEq] at h
    obtain ⟨⟨_, rfl⟩, rfl, rfl, ⟨_, rfl⟩, rfl, _⟩ := h
    exact Or.inl ⟨hd.2.1, hd.2.2.1⟩
theorem shf_fits {X : RNum} (h : dblR X) (n : Int) (n0 : -100 ≤ n) (n1 : n ≤ 100) : fitsD (shfR n X) := by
  cases X using RNum.rec3 with
  | nan => exact trivial
  | inf s => exact trivial
  | fin s k e m =>
    obtain ⟨h1, h2, h3, rfl⟩ := h
    have := blen_le (k := 53) h1
    exact ⟨by omega, by omega, by omega, fun h => by cases h⟩
end Go.Proofs.Ytedafbbpcpebbab
