/- The document's sums one behind the other, by halves, with what was lost carried along: the same as the program's. -/
import Derived.Test.YtjjjgdpgfndbdaaDoorG796e0ed9
import Derived.Test.YtjjjgdpgfndbdaaDoorGa398809f
import Derived.Test.YtjjjgdpgfndbdaaDoorG66aa5247
import Derived.Test.YtjjjgdpgfndbdaaDoorGe97df4c5
namespace Go.Proofs.YtjjjgdpgfndbdaaDoor
open Go.RowKit
set_option linter.unusedVariables false
set_option linter.unusedSimpArgs false

theorem radd_told (a b : Nat) : roundR (plusR (numOf Ieee.single a) (numOf Ieee.single b)) = addV a b := by
  rw [numOf_datum, numOf_datum, plus_link]; rfl
theorem rsub_told (a b : Nat) : roundR (plusR (numOf Ieee.single a) (oppR (numOf Ieee.single b))) = subV a b := by
  rw [numOf_datum, numOf_datum, opp_link, plus_link]; rfl
theorem addV_lt (a b : Nat) : addV a b < 4294967296 := toldD_lt _
theorem subV_lt (a b : Nat) : subV a b < 4294967296 := toldD_lt _
theorem raddV (a b : Nat) (ha : a < 4294967296) (hb : b < 4294967296) (w : World) : Calls Tryd.prog 38 #[.int .u32 (a : Int), .int .u32 (b : Int)] w fun e w' => e = .returned (.int .u32 (addV a b : Nat)) ∧ Q w w' := by
  have h := radd_any a b w ha hb
  rw [radd_told] at h
  exact h
theorem rsubV (a b : Nat) (ha : a < 4294967296) (hb : b < 4294967296) (w : World) : Calls Tryd.prog 45 #[.int .u32 (a : Int), .int .u32 (b : Int)] w fun e w' => e = .returned (.int .u32 (subV a b : Nat)) ∧ Q w w' := by
  have h := rsub_any a b w ha hb
  rw [rsub_told] at h
  exact h
theorem first_eq {a : Nat} (ha : a < 4294967296) : addV 2147483648 a = if nanN a = true then 2143289344 else a := by
  unfold addV
  rw [sum_comm, add_nought ha]
  cases h : nanN a
  · rw [madeN_of h]; rfl
  · rw [madeN_nan h]; rfl
set_option maxHeartbeats 400000 in
theorem first_any (a : Nat) (ha : a < 4294967296) (w : World) : Calls Tryd.prog 37 #[.int .u32 (a : Int)] w fun e w' => e = .returned (.int .u32 (addV 2147483648 a : Nat)) ∧ Q w w' := by
  rw [first_eq ha]
  have k := fun w => risnan_any a w ha
  cases h : nanN a
  · rw [h] at k
    clear h
    go_enter Tryd.func37, Tryd.ntmps37
    go_wp2_with fail
    refine (k _).mono ?_
    rintro e w1 ⟨rfl, q1⟩
    go_wp2_with fail
    go_ret
    exact ⟨rfl, q1⟩
  · rw [h] at k
    clear h
    go_enter Tryd.func37, Tryd.ntmps37
    go_wp2_with fail
    refine (k _).mono ?_
    rintro e w1 ⟨rfl, q1⟩
    go_wp2_with fail
    go_ret
    exact ⟨rfl, q1⟩
theorem fold_lt {S : List Nat} (h : S ≠ []) : S.foldl addV 2147483648 < 4294967296 := by
  have key : ∀ (l : List Nat) (z : Nat), z < 4294967296 → l.foldl addV z < 4294967296 := by
    intro l
    induction l with
    | nil => exact fun z h => h
    | cons x l ih => exact fun z h => ih _ (addV_lt _ _)
  exact key S _ (by decide)
theorem take_one {S : List Nat} (h : 0 < S.length) : S.take 1 = [S.getD 0 0] := by
  cases S with
  | nil => cases h
  | cons x l => rfl
set_option maxHeartbeats 2000000 in
theorem rleft_any (v : Value) (S : List Nat) (w : World) (h : USl w v S) (hn : S.length ≤ 35184372087808) (hb : ∀ i, S.getD i 0 < 4294967296) : Calls Tryd.prog 12 #[v] w fun e w' => e = .returned (.int .u32 (leftV S : Nat)) ∧ Q w w' := by
  obtain ⟨ad, cap, rfl⟩ := h.form
  by_cases h0 : S.length = 0
  · have hS : S = [] := List.eq_nil_of_length_eq_zero h0
    rw [h0]
    have e : leftV S = 0 := by rw [hS]; rfl
    rw [e]
    clear e hS h hb
    go_enter Tryd.func12, Tryd.ntmps12
    go_wp2_with fail
    go_ret
    exact ⟨rfl, Q.refl _⟩
  · obtain ⟨g, o, cap', he, hcap, hI⟩ := h.some (by omega)
    injection he with he1 he2 he3
    subst he1 he3
    clear he2
    have HI : Hid (UIs w g o S) := hI
    have hne : ((S.length : Int) == 0) = false := by rw [beq_eq_false_iff_ne]; omega
    have e : leftV S = S.foldl addV 2147483648 := by unfold leftV; rw [if_neg (fun e => h0 (by rw [e]; rfl))]
    rw [e]
    have hpos : 0 < S.length := by omega
    have c0 := hI 0 hpos
    rw [Nat.add_zero] at c0
    have hx0 := hb 0
    have HT : Hid ((S.take 1).foldl addV 2147483648 = addV 2147483648 (S.getD 0 0)) := by show (S.take 1).foldl addV 2147483648 = _; rw [take_one hpos]; rfl
    have HB : Hid (∀ i, S.getD i 0 < 4294967296) := hb
    generalize S.getD 0 0 = x0 at c0 hx0 HT
    clear e h hI h0 hb
    go_enter Tryd.func12, Tryd.ntmps12
    go_wp2_with fail
    refine (first_any x0 hx0 _).mono ?_
    rintro e w0 ⟨rfl, q0⟩
    have HQ0 : Hid (Q w w0) := q0
    clear q0 c0
    go_wp2_with fail
    go_loopg [3, 4] (S.length - 1) (fun gh s3 s4 wr => ∃ i A : Nat, s3 = .int .u32 (A : Nat) ∧ Hid (A = (S.take i).foldl addV 2147483648) ∧ A < 4294967296 ∧ s4 = .int .i64 (i : Int) ∧ 1 ≤ i ∧ i ≤ S.length ∧ gh = S.length - i ∧ Q w wr)
    case atStart => exact ⟨1, addV 2147483648 x0, rfl, HT.out.symm, addV_lt _ _, rfl, by omega, by omega, rfl, HQ0.out⟩
    case round =>
      obtain ⟨i, A, rfl, HA, hA, rfl, h1, hi, rfl, qr⟩ := hrel
      by_cases hlt : i < S.length
      · have hc := qr.cell (HI.out i hlt)
        have HF : Hid ((S.take (i + 1)).foldl addV 2147483648 = addV ((S.take i).foldl addV 2147483648) (S.getD i 0)) := take_succ_foldl _ _ _ _ hlt
        have HQ : Hid (Q w wr) := qr
        have hx := HB.out i
        generalize S.getD i 0 = x at hc HF hx
        clear qr
        go_wp2_with fail
        refine (raddV A x hA hx _).mono ?_
        rintro e wz ⟨rfl, qz⟩
        go_wp2_with fail
        go_roundg (S.length - (i + 1))
        case measure => go_light; omega
        case rel =>
          go_light
          exact ⟨i + 1, addV A x, rfl, by show addV A x = _; rw [HF.out, HA.out], addV_lt _ _, by simp, by omega, by omega, rfl, HQ.out.trans qz⟩
      · obtain rfl : i = S.length := by omega
        have HQ : Hid (Q w wr) := qr
        have HA' : Hid (A = S.foldl addV 2147483648) := by have h := HA.out; rw [List.take_length] at h; exact h
        clear qr HA
        go_wp2_with fail
        go_ret
        exact ⟨congrArg (fun z : Nat => Ending.returned (Value.int .u32 (z : Int))) HA'.out, HQ.out⟩
def oRp_0 : Oper := { dst := some 17, op := .move (.tmp 0), type := 23, pos := "halideref3.go:61", after := #[], guard := none }
def oRp_1 : Oper := { dst := some 18, op := .move (.tmp 3), type := 3, pos := "halideref3.go:61", after := #[], guard := none }
def oRp_2 : Oper := { dst := some 19, op := .slice 23 (.tmp 17) none (some (.tmp 18)) none, type := 23, pos := "halideref3.go:61", after := #[⟨0, .data⟩, ⟨1, .data⟩], guard := none }
def oRp_3 : Oper := { dst := some 20, op := .call { callee := .value (.func 17), args := #[.tmp 19], argTypes := #[23] }, type := 25, pos := "halideref3.go:61", after := #[⟨2, .data⟩], guard := none }
def oRp_4 : Oper := { dst := some 21, op := .move (.tmp 0), type := 23, pos := "halideref3.go:61", after := #[], guard := none }
def oRp_5 : Oper := { dst := some 22, op := .move (.tmp 3), type := 3, pos := "halideref3.go:61", after := #[], guard := none }
def oRp_6 : Oper := { dst := some 23, op := .slice 23 (.tmp 21) (some (.tmp 22)) none none, type := 23, pos := "halideref3.go:61", after := #[⟨4, .data⟩, ⟨5, .data⟩], guard := none }
def oRp_7 : Oper := { dst := some 24, op := .call { callee := .value (.func 17), args := #[.tmp 23], argTypes := #[23] }, type := 25, pos := "halideref3.go:61", after := #[⟨6, .data⟩, ⟨3, .chain⟩], guard := none }
def oRp_8 : Oper := { dst := some 25, op := .call { callee := .value (.func 38), args := #[.tmp 20, .tmp 24], argTypes := #[25, 25] }, type := 25, pos := "halideref3.go:61", after := #[⟨3, .data⟩, ⟨7, .data⟩, ⟨7, .chain⟩], guard := none }
def oRp_9 : Oper := { dst := some 2, op := .assign (.tmp 25), type := 25, pos := "halideref3.go:61", after := #[⟨8, .data⟩, ⟨8, .chain⟩, ⟨0, .phase⟩, ⟨1, .phase⟩, ⟨2, .phase⟩, ⟨3, .phase⟩, ⟨4, .phase⟩, ⟨5, .phase⟩, ⟨6, .phase⟩, ⟨7, .phase⟩, ⟨8, .phase⟩], guard := none }
def opsRp : List Oper := [oRp_0, oRp_1, oRp_2, oRp_3, oRp_4, oRp_5, oRp_6, oRp_7, oRp_8, oRp_9]
def sRp : List Nat := [17, 18, 19, 20, 21, 22, 23, 24, 25, 2]
def spRp (gb ob nn cc kk A B : Nat) : List Spec := [spV (.slice (some ⟨gb, ob, none⟩) nn cc), spV (.int .i64 (kk : Nat)), spV (.slice (some ⟨gb, ob, none⟩) kk cc), spV (.int .u32 (A : Nat)), spV (.slice (some ⟨gb, ob, none⟩) nn cc), spV (.int .i64 (kk : Nat)), spV (.slice (some ⟨gb, ob + kk, none⟩) (nn - kk) (cc - kk)), spV (.int .u32 (B : Nat)), spV (.int .u32 (addV A B : Nat)), spV (.int .u32 (addV A B : Nat))]
structure EnvRp (a0 : Act) (w : World) (gb ob nn cc kk A B : Nat) : Prop where
  h0 : a0.tmps[0]? = some (.slice (some ⟨gb, ob, none⟩) nn cc)
  h1 : a0.tmps[3]? = some (.int .i64 (kk : Nat))
  l1 : kk < nn
  l2 : nn ≤ cc
  lA : A < 4294967296
  lB : B < 4294967296
  c1 : ∀ x, Q w x → Calls Tryd.prog 17 #[.slice (some ⟨gb, ob, none⟩) kk cc] x fun e x' => e = .returned (.int .u32 (A : Nat)) ∧ Q x x'
  c2 : ∀ x, Q w x → Calls Tryd.prog 17 #[.slice (some ⟨gb, ob + kk, none⟩) (nn - kk) (cc - kk)] x fun e x' => e = .returned (.int .u32 (B : Nat)) ∧ Q x x'
def skRp (i : Nat) : Bool := [].contains i
theorem yRp_0 {a0 : Act} {w : World} {gb ob nn cc kk A B : Nat} (E : EnvRp a0 w gb ob nn cc kk A B) {R : Exit → Act → World → Prop} {a : Act} {x : World} (q : Q w x) (oth : ∀ j, j ∉ sRp → a.tmps[j]? = a0.tmps[j]?) (dep : ∀ ed ∈ oRp_0.after, Region.binds .any ed = true → ∀ t', sRp[ed.on]? = some t' → ∃ v, a.tmps[t']? = some v ∧ specAt (spRp gb ob nn cc kk A B) ed.on v x) : Yld Tryd.prog R oRp_0 a x 17 (specAt (spRp gb ob nn cc kk A B) 0) := by
  exact yld_move ((oth 0 (by decide)).trans E.h0) rfl
theorem yRp_1 {a0 : Act} {w : World} {gb ob nn cc kk A B : Nat} (E : EnvRp a0 w gb ob nn cc kk A B) {R : Exit → Act → World → Prop} {a : Act} {x : World} (q : Q w x) (oth : ∀ j, j ∉ sRp → a.tmps[j]? = a0.tmps[j]?) (dep : ∀ ed ∈ oRp_1.after, Region.binds .any ed = true → ∀ t', sRp[ed.on]? = some t' → ∃ v, a.tmps[t']? = some v ∧ specAt (spRp gb ob nn cc kk A B) ed.on v x) : Yld Tryd.prog R oRp_1 a x 18 (specAt (spRp gb ob nn cc kk A B) 1) := by
  exact yld_move ((oth 3 (by decide)).trans E.h1) rfl
theorem yRp_2 {a0 : Act} {w : World} {gb ob nn cc kk A B : Nat} (E : EnvRp a0 w gb ob nn cc kk A B) {R : Exit → Act → World → Prop} {a : Act} {x : World} (q : Q w x) (oth : ∀ j, j ∉ sRp → a.tmps[j]? = a0.tmps[j]?) (dep : ∀ ed ∈ oRp_2.after, Region.binds .any ed = true → ∀ t', sRp[ed.on]? = some t' → ∃ v, a.tmps[t']? = some v ∧ specAt (spRp gb ob nn cc kk A B) ed.on v x) : Yld Tryd.prog R oRp_2 a x 19 (specAt (spRp gb ob nn cc kk A B) 2) := by
  obtain ⟨v0, t0, f0⟩ := dep ⟨0, .data⟩ (by simp [oRp_2]) rfl 17 rfl
  have f0 : v0 = (.slice (some ⟨gb, ob, none⟩) nn cc) := f0
  subst f0
  obtain ⟨v1, t1, f1⟩ := dep ⟨1, .data⟩ (by simp [oRp_2]) rfl 18 rfl
  have f1 : v1 = (.int .i64 (kk : Nat)) := f1
  subst f1
  exact yld_run (x' := x) rfl (run_slice_to (tmp_eval t0) (tmp_eval t1) E.l1 E.l2) (Q.refl x) rfl
theorem yRp_3 {a0 : Act} {w : World} {gb ob nn cc kk A B : Nat} (E : EnvRp a0 w gb ob nn cc kk A B) {R : Exit → Act → World → Prop} {a : Act} {x : World} (q : Q w x) (oth : ∀ j, j ∉ sRp → a.tmps[j]? = a0.tmps[j]?) (dep : ∀ ed ∈ oRp_3.after, Region.binds .any ed = true → ∀ t', sRp[ed.on]? = some t' → ∃ v, a.tmps[t']? = some v ∧ specAt (spRp gb ob nn cc kk A B) ed.on v x) : Yld Tryd.prog R oRp_3 a x 20 (specAt (spRp gb ob nn cc kk A B) 3) := by
  obtain ⟨v2, t2, f2⟩ := dep ⟨2, .data⟩ (by simp [oRp_3]) rfl 19 rfl
  have f2 : v2 = (.slice (some ⟨gb, ob, none⟩) kk cc) := f2
  subst f2
  refine yld_call (enters_of Tryd.func17 (by kernel_rfl) rfl) (args1 t2) ((E.c1 x q).mono ?_)
  rintro y x' ⟨rfl, q'⟩
  exact ⟨_, rfl, q', rfl⟩
theorem yRp_4 {a0 : Act} {w : World} {gb ob nn cc kk A B : Nat} (E : EnvRp a0 w gb ob nn cc kk A B) {R : Exit → Act → World → Prop} {a : Act} {x : World} (q : Q w x) (oth : ∀ j, j ∉ sRp → a.tmps[j]? = a0.tmps[j]?) (dep : ∀ ed ∈ oRp_4.after, Region.binds .any ed = true → ∀ t', sRp[ed.on]? = some t' → ∃ v, a.tmps[t']? = some v ∧ specAt (spRp gb ob nn cc kk A B) ed.on v x) : Yld Tryd.prog R oRp_4 a x 21 (specAt (spRp gb ob nn cc kk A B) 4) := by
  exact yld_move ((oth 0 (by decide)).trans E.h0) rfl
theorem yRp_5 {a0 : Act} {w : World} {gb ob nn cc kk A B : Nat} (E : EnvRp a0 w gb ob nn cc kk A B) {R : Exit → Act → World → Prop} {a : Act} {x : World} (q : Q w x) (oth : ∀ j, j ∉ sRp → a.tmps[j]? = a0.tmps[j]?) (dep : ∀ ed ∈ oRp_5.after, Region.binds .any ed = true → ∀ t', sRp[ed.on]? = some t' → ∃ v, a.tmps[t']? = some v ∧ specAt (spRp gb ob nn cc kk A B) ed.on v x) : Yld Tryd.prog R oRp_5 a x 22 (specAt (spRp gb ob nn cc kk A B) 5) := by
  exact yld_move ((oth 3 (by decide)).trans E.h1) rfl
theorem yRp_6 {a0 : Act} {w : World} {gb ob nn cc kk A B : Nat} (E : EnvRp a0 w gb ob nn cc kk A B) {R : Exit → Act → World → Prop} {a : Act} {x : World} (q : Q w x) (oth : ∀ j, j ∉ sRp → a.tmps[j]? = a0.tmps[j]?) (dep : ∀ ed ∈ oRp_6.after, Region.binds .any ed = true → ∀ t', sRp[ed.on]? = some t' → ∃ v, a.tmps[t']? = some v ∧ specAt (spRp gb ob nn cc kk A B) ed.on v x) : Yld Tryd.prog R oRp_6 a x 23 (specAt (spRp gb ob nn cc kk A B) 6) := by
  obtain ⟨v4, t4, f4⟩ := dep ⟨4, .data⟩ (by simp [oRp_6]) rfl 21 rfl
  have f4 : v4 = (.slice (some ⟨gb, ob, none⟩) nn cc) := f4
  subst f4
  obtain ⟨v5, t5, f5⟩ := dep ⟨5, .data⟩ (by simp [oRp_6]) rfl 22 rfl
  have f5 : v5 = (.int .i64 (kk : Nat)) := f5
  subst f5
  exact yld_run (x' := x) rfl (run_slice_from (tmp_eval t4) (tmp_eval t5) E.l1 E.l2) (Q.refl x) rfl
theorem yRp_7 {a0 : Act} {w : World} {gb ob nn cc kk A B : Nat} (E : EnvRp a0 w gb ob nn cc kk A B) {R : Exit → Act → World → Prop} {a : Act} {x : World} (q : Q w x) (oth : ∀ j, j ∉ sRp → a.tmps[j]? = a0.tmps[j]?) (dep : ∀ ed ∈ oRp_7.after, Region.binds .any ed = true → ∀ t', sRp[ed.on]? = some t' → ∃ v, a.tmps[t']? = some v ∧ specAt (spRp gb ob nn cc kk A B) ed.on v x) : Yld Tryd.prog R oRp_7 a x 24 (specAt (spRp gb ob nn cc kk A B) 7) := by
  obtain ⟨v6, t6, f6⟩ := dep ⟨6, .data⟩ (by simp [oRp_7]) rfl 23 rfl
  have f6 : v6 = (.slice (some ⟨gb, ob + kk, none⟩) (nn - kk) (cc - kk)) := f6
  subst f6
  refine yld_call (enters_of Tryd.func17 (by kernel_rfl) rfl) (args1 t6) ((E.c2 x q).mono ?_)
  rintro y x' ⟨rfl, q'⟩
  exact ⟨_, rfl, q', rfl⟩
theorem yRp_8 {a0 : Act} {w : World} {gb ob nn cc kk A B : Nat} (E : EnvRp a0 w gb ob nn cc kk A B) {R : Exit → Act → World → Prop} {a : Act} {x : World} (q : Q w x) (oth : ∀ j, j ∉ sRp → a.tmps[j]? = a0.tmps[j]?) (dep : ∀ ed ∈ oRp_8.after, Region.binds .any ed = true → ∀ t', sRp[ed.on]? = some t' → ∃ v, a.tmps[t']? = some v ∧ specAt (spRp gb ob nn cc kk A B) ed.on v x) : Yld Tryd.prog R oRp_8 a x 25 (specAt (spRp gb ob nn cc kk A B) 8) := by
  obtain ⟨v3, t3, f3⟩ := dep ⟨3, .data⟩ (by simp [oRp_8]) rfl 20 rfl
  have f3 : v3 = (.int .u32 (A : Nat)) := f3
  subst f3
  obtain ⟨v7, t7, f7⟩ := dep ⟨7, .data⟩ (by simp [oRp_8]) rfl 24 rfl
  have f7 : v7 = (.int .u32 (B : Nat)) := f7
  subst f7
  refine yld_call (enters_of Tryd.func38 (by kernel_rfl) rfl) (args2 t3 t7) ((raddV A B E.lA E.lB x).mono ?_)
  rintro y x' ⟨rfl, q'⟩
  exact ⟨_, rfl, q', rfl⟩
theorem yRp_9 {a0 : Act} {w : World} {gb ob nn cc kk A B : Nat} (E : EnvRp a0 w gb ob nn cc kk A B) {R : Exit → Act → World → Prop} {a : Act} {x : World} (q : Q w x) (oth : ∀ j, j ∉ sRp → a.tmps[j]? = a0.tmps[j]?) (dep : ∀ ed ∈ oRp_9.after, Region.binds .any ed = true → ∀ t', sRp[ed.on]? = some t' → ∃ v, a.tmps[t']? = some v ∧ specAt (spRp gb ob nn cc kk A B) ed.on v x) : Yld Tryd.prog R oRp_9 a x 2 (specAt (spRp gb ob nn cc kk A B) 9) := by
  obtain ⟨v8, t8, f8⟩ := dep ⟨8, .data⟩ (by simp [oRp_9]) rfl 25 rfl
  have f8 : v8 = (.int .u32 (addV A B : Nat)) := f8
  subst f8
  exact yld_run (x' := x) rfl (by rw [← tmp_eval t8]; rfl) (Q.refl x) rfl
theorem hopRp {a0 : Act} {w : World} {gb ob nn cc kk A B : Nat} (E : EnvRp a0 w gb ob nn cc kk A B) {R : Exit → Act → World → Prop} : ∀ (i t : Nat) (o : Oper) (a : Act) (x : World), skRp i = false → sRp[i]? = some t → opsRp[i]? = some o → Q w x → (∀ j, j ∉ sRp → a.tmps[j]? = a0.tmps[j]?) → (∀ ed ∈ o.after, Region.binds .any ed = true → ∀ t', sRp[ed.on]? = some t' → ∃ v, a.tmps[t']? = some v ∧ specAt (spRp gb ob nn cc kk A B) ed.on v x) → Yld Tryd.prog R o a x t (specAt (spRp gb ob nn cc kk A B) i)
  | 0, t, o, a, x, hi, ht, ho, q, oth, dep => by
    have e1 : oRp_0 = o := Option.some.inj ho
    have e2 : 17 = t := Option.some.inj ht
    subst e1 e2
    exact yRp_0 E q oth dep
  | 1, t, o, a, x, hi, ht, ho, q, oth, dep => by
    have e1 : oRp_1 = o := Option.some.inj ho
    have e2 : 18 = t := Option.some.inj ht
    subst e1 e2
    exact yRp_1 E q oth dep
  | 2, t, o, a, x, hi, ht, ho, q, oth, dep => by
    have e1 : oRp_2 = o := Option.some.inj ho
    have e2 : 19 = t := Option.some.inj ht
    subst e1 e2
    exact yRp_2 E q oth dep
  | 3, t, o, a, x, hi, ht, ho, q, oth, dep => by
    have e1 : oRp_3 = o := Option.some.inj ho
    have e2 : 20 = t := Option.some.inj ht
    subst e1 e2
    exact yRp_3 E q oth dep
  | 4, t, o, a, x, hi, ht, ho, q, oth, dep => by
    have e1 : oRp_4 = o := Option.some.inj ho
    have e2 : 21 = t := Option.some.inj ht
    subst e1 e2
    exact yRp_4 E q oth dep
  | 5, t, o, a, x, hi, ht, ho, q, oth, dep => by
    have e1 : oRp_5 = o := Option.some.inj ho
    have e2 : 22 = t := Option.some.inj ht
    subst e1 e2
    exact yRp_5 E q oth dep
  | 6, t, o, a, x, hi, ht, ho, q, oth, dep => by
    have e1 : oRp_6 = o := Option.some.inj ho
    have e2 : 23 = t := Option.some.inj ht
    subst e1 e2
    exact yRp_6 E q oth dep
  | 7, t, o, a, x, hi, ht, ho, q, oth, dep => by
    have e1 : oRp_7 = o := Option.some.inj ho
    have e2 : 24 = t := Option.some.inj ht
    subst e1 e2
    exact yRp_7 E q oth dep
  | 8, t, o, a, x, hi, ht, ho, q, oth, dep => by
    have e1 : oRp_8 = o := Option.some.inj ho
    have e2 : 25 = t := Option.some.inj ht
    subst e1 e2
    exact yRp_8 E q oth dep
  | 9, t, o, a, x, hi, ht, ho, q, oth, dep => by
    have e1 : oRp_9 = o := Option.some.inj ho
    have e2 : 2 = t := Option.some.inj ht
    subst e1 e2
    exact yRp_9 E q oth dep
  | i + 10, t, o, a, x, hi, ht, ho, q, oth, dep => by cases ho
theorem keyRp : ∀ i, i < 10 → ((opsRp[i]?).bind (fun o : Oper => o.guard) = none ∧ skRp i = false) := by decide +kernel
theorem hguRp {gb ob nn cc kk A B : Nat} : ∀ (i : Nat) (o : Oper) (g : Nat) (b : Bool), opsRp[i]? = some o → o.guard = some (g, b) → ∀ v x, specAt (spRp gb ob nn cc kk A B) g v x → (v = .bool b ↔ skRp i = false) := by
  intro i o g b ho hg v x hf
  have h := keyRp i (List.getElem?_eq_some_iff.1 ho).1
  rw [ho] at h
  simp only [Option.bind_some] at h
  rw [hg] at h
  rcases h with ⟨h, _⟩
  · cases h
theorem hgnRp : ∀ (i : Nat) (o : Oper), opsRp[i]? = some o → o.guard = none → skRp i = false := by
  intro i o ho hg
  have h := keyRp i (List.getElem?_eq_some_iff.1 ho).1
  rw [ho] at h
  simp only [Option.bind_some] at h
  rw [hg] at h
  rcases h with ⟨_, h⟩
  · exact h
theorem hskRp {gb ob nn cc kk A B : Nat} : ∀ (i : Nat) (x : World), skRp i = true → specAt (spRp gb ob nn cc kk A B) i undef x := by
  intro i x h
  cases h
theorem regionRp {id : Nat} {l : List Oper} {R : Exit → Act → World → Prop} {a0 : Act} {w : World} {gb ob nn cc kk A B : Nat} (hl : l = opsRp) (hsz : a0.tmps.size = 26) (E : EnvRp a0 w gb ob nn cc kk A B)
    (hR : ∀ a x, Q w x → a.defers = a0.defers → a.tmps[2]? = some (.int .u32 (addV A B : Nat)) → R .normal a x) :
    (Code.region id l.toArray true).wp Tryd.prog R a0 w := by
  subst hl
  refine wp_region_factsS sRp (specAt (spRp gb ob nn cc kk A B)) skRp (by kernel_rfl) (by decide +kernel) (by decide) (fun t ht => ?_) specAt.next hguRp hgnRp hskRp (hopRp E) (fun a x q size defers other facts => ?_)
  · rw [hsz]
    revert t
    decide
  · obtain ⟨v, tl, fl⟩ := facts 9 2 rfl
    have fl : v = .int .u32 (addV A B : Nat) := fl
    subst fl
    exact ⟨hR a x q defers tl⟩
theorem take_lt {S : List Nat} (hb : ∀ i, S.getD i 0 < 4294967296) (k i : Nat) : (S.take k).getD i 0 < 4294967296 := by
  rw [List.getD_eq_getElem?_getD, List.getElem?_take]
  split
  · rw [← List.getD_eq_getElem?_getD]; exact hb i
  · decide
theorem drop_lt {S : List Nat} (hb : ∀ i, S.getD i 0 < 4294967296) (k i : Nat) : (S.drop k).getD i 0 < 4294967296 := by
  rw [List.getD_eq_getElem?_getD, List.getElem?_drop, ← List.getD_eq_getElem?_getD]
  exact hb _
theorem pairsV_lt (l : List Nat) : pairsV l < 4294967296 := by
  rcases Nat.lt_or_ge l.length 2 with h | h
  · have : l.length = 0 ∨ l.length = 1 := by omega
    rcases this with h | h
    · rw [pairsV_none h]; decide
    · rw [pairsV_one h]; exact addV_lt _ _
  · rw [pairsV_many h]; exact addV_lt _ _
set_option maxHeartbeats 2000000 in
theorem rpairs_any : ∀ (n : Nat) (v : Value) (S : List Nat) (w : World), S.length ≤ n → USl w v S → S.length ≤ 35184372087808 → (∀ i, S.getD i 0 < 4294967296) → Calls Tryd.prog 17 #[v] w fun e w' => e = .returned (.int .u32 (pairsV S : Nat)) ∧ Q w w' := by
  intro n
  induction n with
  | zero =>
    intro v S w hl h hn hb
    obtain ⟨ad, cap, rfl⟩ := h.form
    have h0 : S.length = 0 := by omega
    rw [h0, pairsV_none h0]
    clear h hb
    go_enter Tryd.func17, Tryd.ntmps17
    go_wp2_with fail
    go_ret
    exact ⟨rfl, Q.refl _⟩
  | succ n ih =>
    intro v S w hl h hn hb
    obtain ⟨ad, cap, rfl⟩ := h.form
    by_cases h0 : S.length = 0
    · rw [h0, pairsV_none h0]
      clear h ih hb
      go_enter Tryd.func17, Tryd.ntmps17
      go_wp2_with fail
      go_ret
      exact ⟨rfl, Q.refl _⟩
    · obtain ⟨g, o, cap', he, hcap, hI⟩ := h.some (by omega)
      injection he with he1 he2 he3
      subst he1 he3
      clear he2
      by_cases h1 : S.length = 1
      · have c0 := hI 0 (by omega)
        rw [Nat.add_zero] at c0
        rw [h1, pairsV_one h1]
        have hx := hb 0
        generalize S.getD 0 0 = x at c0 hx
        clear h ih hI hb
        go_enter Tryd.func17, Tryd.ntmps17
        go_wp2_with fail
        refine (first_any x hx _).mono ?_
        rintro e wz ⟨rfl, qz⟩
        go_wp2_with fail
        go_ret
        exact ⟨rfl, qz⟩
      · have hne0 : ((S.length : Int) == 0) = false := by rw [beq_eq_false_iff_ne]; omega
        have hne1 : ((S.length : Int) == 1) = false := by rw [beq_eq_false_iff_ne]; omega
        obtain ⟨k, hk⟩ : ∃ k, k = S.length / 2 := ⟨_, rfl⟩
        rw [pairsV_many (by omega), ← hk]
        have hk1 : 1 ≤ k := by omega
        have hk2 : k < S.length := by omega
        have hd : (S.length : Int) / 2 = (k : Int) := by omega
        have c1 := fun w' (q : Q w w') => ih (.slice (some ⟨g, o, none⟩) k cap) (S.take k) w' (by rw [List.length_take]; omega) (by
          have := ((hI.next q).take k).usl (cap := cap) (by rw [List.length_take]; omega)
          rw [List.length_take, Nat.min_eq_left (by omega)] at this
          exact this) (by rw [List.length_take]; omega) (take_lt hb k)
        have c2 := fun w' (q : Q w w') => ih (.slice (some ⟨g, o + k, none⟩) (S.length - k) (cap - k)) (S.drop k) w' (by rw [List.length_drop]; omega) (by
          have := ((hI.next q).drop k).usl (cap := cap - k) (by rw [List.length_drop]; omega)
          rw [List.length_drop] at this
          exact this) (by rw [List.length_drop]; omega) (drop_lt hb k)
        have lA := pairsV_lt (S.take k)
        have lB := pairsV_lt (S.drop k)
        generalize pairsV (S.take k) = A at c1 lA
        generalize pairsV (S.drop k) = B at c2 lB
        have C1 : Hid _ := c1
        have C2 : Hid _ := c2
        clear c1 c2 ih h hI hk hb
        go_enter Tryd.func17, Tryd.ntmps17
        go_wp2_with fail
        refine regionRp rfl rfl ⟨rfl, rfl, by omega, hcap, lA, lB, C1.out, C2.out⟩ ?_
        intro a9 x9 q9 df t4
        have HQ9 : Hid (Q w x9) := q9
        clear q9
        go_wp2_with fail
        obtain ⟨tm, dd⟩ := a9
        have df : dd = [] := df
        subst df
        have t4 : tm[2]? = some (.int .u32 (addV A B : Nat)) := t4
        go_ret
        have t4' : tm.getD 2 undef = .int .u32 (addV A B : Nat) := by rw [Array.getD_eq_getD_getElem?, t4]; rfl
        exact ⟨congrArg Ending.returned t4', HQ9.out⟩
set_option maxHeartbeats 2000000 in
theorem rkahan_any (v : Value) (S : List Nat) (w : World) (h : USl w v S) (hn : S.length ≤ 35184372087808) (hb : ∀ i, S.getD i 0 < 4294967296) : Calls Tryd.prog 19 #[v] w fun e w' => e = .returned (.int .u32 (kahV S : Nat)) ∧ Q w w' := by
  obtain ⟨ad, cap, rfl⟩ := h.form
  by_cases h0 : S.length = 0
  · have hS : S = [] := List.eq_nil_of_length_eq_zero h0
    rw [h0]
    have e : kahV S = 0 := by rw [hS]; rfl
    rw [e]
    clear e hS h hb
    go_enter Tryd.func19, Tryd.ntmps19
    go_wp2_with fail
    go_ret
    exact ⟨rfl, Q.refl _⟩
  · obtain ⟨g, o, cap', he, hcap, hI⟩ := h.some (by omega)
    injection he with he1 he2 he3
    subst he1 he3
    clear he2
    have HI : Hid (UIs w g o S) := hI
    have hne : ((S.length : Int) == 0) = false := by rw [beq_eq_false_iff_ne]; omega
    have e : kahV S = ((S.drop 1).foldl kahS (addV 2147483648 (S.getD 0 0), 0)).1 := by unfold kahV; rw [if_neg (fun e => h0 (by rw [e]; rfl))]
    rw [e]
    have hpos : 0 < S.length := by omega
    have c0 := hI 0 hpos
    rw [Nat.add_zero] at c0
    have hx0 := hb 0
    have HB : Hid (∀ i, S.getD i 0 < 4294967296) := hb
    generalize S.getD 0 0 = x0 at c0 hx0
    have HD : Hid (∀ i, i < S.length - 1 → ((S.drop 1).take (i + 1)).foldl kahS (addV 2147483648 x0, 0) = kahS (((S.drop 1).take i).foldl kahS (addV 2147483648 x0, 0)) (S.getD (i + 1) 0)) := fun i hi => by
      rw [take_succ_foldl _ _ _ 0 (by rw [List.length_drop]; exact hi), List.getD_eq_getElem?_getD, List.getElem?_drop, ← List.getD_eq_getElem?_getD, Nat.add_comm 1 i]
    have HL : Hid ((S.drop 1).length = S.length - 1) := List.length_drop
    generalize S.drop 1 = D at HD HL
    clear e h hI h0 hb
    go_enter Tryd.func19, Tryd.ntmps19
    go_wp2_with fail
    refine (first_any x0 hx0 _).mono ?_
    rintro e w0 ⟨rfl, q0⟩
    have HQ0 : Hid (Q w w0) := q0
    clear q0 c0
    go_wp2_with fail
    go_loopg [3, 4, 5] (S.length - 1) (fun gh s3 s4 s5 wr => ∃ i A C : Nat, s3 = .int .u32 (A : Nat) ∧ s4 = .int .u32 (C : Nat) ∧ Hid ((A, C) = (D.take i).foldl kahS (addV 2147483648 x0, 0)) ∧ A < 4294967296 ∧ C < 4294967296 ∧ s5 = .int .i64 ((i + 1 : Nat) : Int) ∧ i ≤ S.length - 1 ∧ gh = S.length - 1 - i ∧ Q w wr)
    case atStart => exact ⟨0, addV 2147483648 x0, 0, rfl, rfl, rfl, addV_lt _ _, by decide, rfl, by omega, rfl, HQ0.out⟩
    case round =>
      obtain ⟨i, A, C, rfl, rfl, HA, hA, hC, rfl, hi, rfl, qr⟩ := hrel
      by_cases hlt : i + 1 < S.length
      · have hc := qr.cell (HI.out (i + 1) hlt)
        have HF := HD.out i (by omega)
        rw [← HA.out] at HF
        have HF' : Hid ((D.take (i + 1)).foldl kahS (addV 2147483648 x0, 0) = kahS (A, C) (S.getD (i + 1) 0)) := HF
        have HQ : Hid (Q w wr) := qr
        have hx := HB.out (i + 1)
        generalize S.getD (i + 1) 0 = y at hc HF' hx
        clear qr HF HA
        go_wp2_with fail
        refine (rsubV y C hx hC _).mono ?_
        rintro e w2 ⟨rfl, q2⟩
        go_wp2_with fail
        refine (raddV A (subV y C) hA (subV_lt _ _) _).mono ?_
        rintro e w3 ⟨rfl, q3⟩
        go_wp2_with fail
        refine (rsubV (addV A (subV y C)) A (addV_lt _ _) hA _).mono ?_
        rintro e w4 ⟨rfl, q4⟩
        go_wp2_with fail
        refine (rsubV (subV (addV A (subV y C)) A) (subV y C) (subV_lt _ _) (subV_lt _ _) _).mono ?_
        rintro e w5 ⟨rfl, q5⟩
        go_wp2_with fail
        go_roundg (S.length - 1 - (i + 1))
        case measure => go_light; omega
        case rel =>
          go_light
          exact ⟨i + 1, addV A (subV y C), subV (subV (addV A (subV y C)) A) (subV y C), rfl, rfl, by show _ = _; rw [HF'.out]; rfl, addV_lt _ _, subV_lt _ _, by simp, by omega, rfl, (((HQ.out.trans q2).trans q3).trans q4).trans q5⟩
      · have hie : i = S.length - 1 := by omega
        have HQ : Hid (Q w wr) := qr
        have HA' : Hid (A = (D.foldl kahS (addV 2147483648 x0, 0)).1) := by
          have h := HA.out
          rw [hie, ← HL.out, List.take_length] at h
          show A = _
          rw [← h]
        clear qr HA
        go_wp2_with fail
        go_ret
        exact ⟨congrArg (fun z : Nat => Ending.returned (Value.int .u32 (z : Int))) HA'.out, HQ.out⟩
end Go.Proofs.YtjjjgdpgfndbdaaDoor
