/- Sums: one behind the other, by halves, with what was lost carried along: what the program tells. -/
import Derived.Test.YtnjagokojdpgpabDoorGfa368369
import Derived.Test.YtnjagokojdpgpabDoorGa6563b85
import Derived.Test.YtnjagokojdpgpabDoorG0994402e
import Derived.Test.YtnjagokojdpgpabDoorGc08c871d
import Derived.Test.YtnjagokojdpgpabDoorG6f2136d7
import Derived.Test.YtnjagokojdpgpabDoorGbecceb31
namespace Go.Proofs.YtnjagokojdpgpabDoor
open Go.RowKit
set_option linter.unusedVariables false
set_option linter.unusedSimpArgs false

/-- A sum, rounded to binary32. -/
def addV (a b : Nat) : Nat := toldD ((Ieee.single.read a).sum (Ieee.single.read b))
def subV (a b : Nat) : Nat := toldD ((Ieee.single.read a).sum (Ieee.single.read b).opposite)
def leftV (l : List Nat) : Nat := if l = [] then 0 else l.foldl addV 2147483648
theorem take_succ_foldl {α β : Type} (f : β → α → β) (z : β) (l : List α) (d : α) {i : Nat} (h : i < l.length) : (l.take (i + 1)).foldl f z = f ((l.take i).foldl f z) (l.getD i d) := by
  rw [List.take_succ_eq_append_getElem h, List.foldl_append, List.getD_eq_getElem?_getD, List.getElem?_eq_getElem h]; rfl
set_option maxHeartbeats 2000000 in
theorem left_any (v : Value) (S : List Nat) (w : World) (h : USl w v S) (hn : S.length ≤ 35184372087808) : Calls Tryd.prog 25 #[v] w fun e w' => e = .returned (.int .u32 (leftV S : Nat)) ∧ Q w w' := by
  obtain ⟨ad, cap, rfl⟩ := h.form
  by_cases h0 : S.length = 0
  · have hS : S = [] := List.eq_nil_of_length_eq_zero h0
    rw [h0]
    have e : leftV S = 0 := by rw [hS]; rfl
    rw [e]
    clear e hS h
    go_enter Tryd.func25, Tryd.ntmps25
    go_wp2_with fail
    go_ret
    exact ⟨rfl, Q.refl _⟩
  · obtain ⟨g, o, cap', he, hcap, hI⟩ := h.some (by omega)
    injection he with he1 he2 he3
    subst he1 he3
    have HI : Hid (UIs w g o S) := hI
    have hne : ((S.length : Int) == 0) = false := by rw [beq_eq_false_iff_ne]; omega
    have e : leftV S = S.foldl addV 2147483648 := by unfold leftV; rw [if_neg (fun e => h0 (by rw [e]; rfl))]
    rw [e]
    have HN : Hid (¬ S.length = 0) := h0
    clear e h hI h0
    go_enter Tryd.func25, Tryd.ntmps25
    go_wp2_with fail
    go_loopg [3, 11] (S.length) (fun gh s3 s11 wr => ∃ i : Nat, s3 = .int .u32 ((S.take i).foldl addV 2147483648 : Nat) ∧ s11 = .int .i64 (i : Int) ∧ i ≤ S.length ∧ gh = S.length - i ∧ Q w wr)
    case atStart => exact ⟨0, rfl, rfl, by omega, rfl, Q.refl _⟩
    case round =>
      obtain ⟨i, rfl, rfl, hi, rfl, qr⟩ := hrel
      by_cases hlt : i < S.length
      · have hc := qr.cell (HI.out i hlt)
        have HF : Hid ((S.take (i + 1)).foldl addV 2147483648 = addV ((S.take i).foldl addV 2147483648) (S.getD i 0)) := take_succ_foldl _ _ _ _ hlt
        have HQ : Hid (Q w wr) := qr
        generalize S.getD i 0 = x at hc HF
        generalize (S.take i).foldl addV 2147483648 = A at HF
        clear qr
        go_wp2_with fail
        refine (cadd_any A x _).mono ?_
        rintro e wz ⟨rfl, qz⟩
        go_wp2_with fail
        go_roundg (S.length - (i + 1))
        case measure => go_light; omega
        case rel =>
          go_light
          exact ⟨i + 1, by rw [HF.out]; rfl, by simp, by omega, rfl, HQ.out.trans qz⟩
      · obtain rfl : i = S.length := by omega
        have HQ : Hid (Q w wr) := qr
        clear qr
        go_wp2_with fail
        go_ret
        exact ⟨by simp [List.take_length], HQ.out⟩
/-- By halves, so many times at most. -/
def pairsF : Nat → List Nat → Nat
  | 0, l => if l.length = 0 then 0 else addV 2147483648 (l.getD 0 0)
  | f + 1, l => if l.length = 0 then 0 else if l.length = 1 then addV 2147483648 (l.getD 0 0) else addV (pairsF f (l.take (l.length / 2))) (pairsF f (l.drop (l.length / 2)))
theorem pairsF_more : ∀ (f : Nat) (l : List Nat), l.length ≤ f + 1 → pairsF (f + 1) l = pairsF f l := by
  intro f
  induction f with
  | zero =>
    intro l h
    unfold pairsF
    by_cases h0 : l.length = 0
    · rw [if_pos h0, if_pos h0]
    · rw [if_neg h0, if_neg h0, if_pos (by omega)]
  | succ f ih =>
    intro l h
    show (if l.length = 0 then 0 else if l.length = 1 then addV 2147483648 (l.getD 0 0) else addV (pairsF (f + 1) (l.take (l.length / 2))) (pairsF (f + 1) (l.drop (l.length / 2)))) = (if l.length = 0 then 0 else if l.length = 1 then addV 2147483648 (l.getD 0 0) else addV (pairsF f (l.take (l.length / 2))) (pairsF f (l.drop (l.length / 2))))
    by_cases h0 : l.length = 0
    · rw [if_pos h0, if_pos h0]
    · by_cases h1 : l.length = 1
      · rw [if_neg h0, if_neg h0, if_pos h1, if_pos h1]
      · rw [if_neg h0, if_neg h0, if_neg h1, if_neg h1, ih _ (by rw [List.length_take]; omega), ih _ (by rw [List.length_drop]; omega)]
theorem pairsF_any (l : List Nat) : ∀ (k f : Nat), l.length ≤ f + 1 → pairsF (f + k) l = pairsF f l := by
  intro k
  induction k with
  | zero => exact fun f _ => rfl
  | succ k ih =>
    intro f h
    rw [show f + (k + 1) = (f + k) + 1 by omega, pairsF_more (f + k) l (by omega), ih f h]
def pairsV (l : List Nat) : Nat := pairsF l.length l
theorem pairsV_none {l : List Nat} (h : l.length = 0) : pairsV l = 0 := by
  unfold pairsV
  rw [h]
  show (if l.length = 0 then 0 else _) = 0
  rw [if_pos h]
theorem pairsV_one {l : List Nat} (h : l.length = 1) : pairsV l = addV 2147483648 (l.getD 0 0) := by
  unfold pairsV
  rw [h]
  show (if l.length = 0 then 0 else if l.length = 1 then addV 2147483648 (l.getD 0 0) else _) = _
  rw [if_neg (by omega), if_pos h]
theorem pairsV_many {l : List Nat} (h : 2 ≤ l.length) : pairsV l = addV (pairsV (l.take (l.length / 2))) (pairsV (l.drop (l.length / 2))) := by
  have fit : ∀ m : List Nat, m.length ≤ l.length - 1 → pairsF (l.length - 1) m = pairsV m := fun m hm => by
    unfold pairsV
    have := pairsF_any m (l.length - 1 - m.length) m.length (by omega)
    rw [← this]
    congr 1
    omega
  have e : pairsV l = pairsF (l.length - 1 + 1) l := by unfold pairsV; congr 1; omega
  rw [e]
  show (if l.length = 0 then 0 else if l.length = 1 then addV 2147483648 (l.getD 0 0) else addV (pairsF (l.length - 1) (l.take (l.length / 2))) (pairsF (l.length - 1) (l.drop (l.length / 2)))) = _
  rw [if_neg (by omega), if_neg (by omega), fit _ (by rw [List.length_take]; omega), fit _ (by rw [List.length_drop]; omega)]
theorem UIs.take {w : World} {g o : Nat} {l : List Nat} (h : UIs w g o l) (k : Nat) : UIs w g o (l.take k) := fun i hi => by
  rw [List.length_take] at hi
  have := h i (by omega)
  rw [this]
  congr 3
  rw [List.getD_eq_getElem?_getD, List.getD_eq_getElem?_getD, List.getElem?_take, if_pos (by omega)]
theorem UIs.drop {w : World} {g o : Nat} {l : List Nat} (h : UIs w g o l) (k : Nat) : UIs w g (o + k) (l.drop k) := fun i hi => by
  rw [List.length_drop] at hi
  have := h (k + i) (by omega)
  rw [show o + k + i = o + (k + i) by omega, this]
  congr 3
  rw [List.getD_eq_getElem?_getD, List.getD_eq_getElem?_getD, List.getElem?_drop]
theorem run_slice_to {ρ : Operand → Value} {x : World} {d : Option Tmp} {ty : TypeId} {ps : String} {af : Array Edge} {g : Option (Nat × Bool)} {j k gb ob nn cc kk : Nat} (h : ρ (.tmp j) = .slice (some ⟨gb, ob, none⟩) nn cc) (h' : ρ (.tmp k) = .int .i64 (kk : Nat)) (l1 : kk < nn) (l2 : nn ≤ cc) : (execOp ρ { dst := d, op := .slice 22 (.tmp j) none (some (.tmp k)) none, type := ty, pos := ps, after := af, guard := g }).run Tryd.prog x = .ok (.value (.slice (some ⟨gb, ob, none⟩) kk cc)) x := by
  simp [execOp, h, h', go_sem]
  intro h4
  omega
theorem run_slice_from {ρ : Operand → Value} {x : World} {d : Option Tmp} {ty : TypeId} {ps : String} {af : Array Edge} {g : Option (Nat × Bool)} {j k gb ob nn cc kk : Nat} (h : ρ (.tmp j) = .slice (some ⟨gb, ob, none⟩) nn cc) (h' : ρ (.tmp k) = .int .i64 (kk : Nat)) (l1 : kk < nn) (l2 : nn ≤ cc) : (execOp ρ { dst := d, op := .slice 22 (.tmp j) (some (.tmp k)) none none, type := ty, pos := ps, after := af, guard := g }).run Tryd.prog x = .ok (.value (.slice (some ⟨gb, ob + kk, none⟩) (nn - kk) (cc - kk))) x := by
  simp [execOp, h, h', go_sem]
  rw [if_pos (Nat.le_of_lt l1), if_neg (by omega)]
def oPa_0 : Oper := { dst := some 17, op := .move (.tmp 0), type := 22, pos := "sums.go:62", after := #[], guard := none }
def oPa_1 : Oper := { dst := some 18, op := .move (.tmp 3), type := 3, pos := "sums.go:62", after := #[], guard := none }
def oPa_2 : Oper := { dst := some 19, op := .slice 22 (.tmp 17) none (some (.tmp 18)) none, type := 22, pos := "sums.go:62", after := #[⟨0, .data⟩, ⟨1, .data⟩], guard := none }
def oPa_3 : Oper := { dst := some 20, op := .call { callee := .value (.func 26), args := #[.tmp 19], argTypes := #[22] }, type := 23, pos := "sums.go:62", after := #[⟨2, .data⟩], guard := none }
def oPa_4 : Oper := { dst := some 21, op := .move (.tmp 0), type := 22, pos := "sums.go:62", after := #[], guard := none }
def oPa_5 : Oper := { dst := some 22, op := .move (.tmp 3), type := 3, pos := "sums.go:62", after := #[], guard := none }
def oPa_6 : Oper := { dst := some 23, op := .slice 22 (.tmp 21) (some (.tmp 22)) none none, type := 22, pos := "sums.go:62", after := #[⟨4, .data⟩, ⟨5, .data⟩], guard := none }
def oPa_7 : Oper := { dst := some 24, op := .call { callee := .value (.func 26), args := #[.tmp 23], argTypes := #[22] }, type := 23, pos := "sums.go:62", after := #[⟨6, .data⟩, ⟨3, .chain⟩], guard := none }
def oPa_8 : Oper := { dst := some 25, op := .call { callee := .value (.func 49), args := #[.tmp 20, .tmp 24], argTypes := #[23, 23] }, type := 23, pos := "sums.go:62", after := #[⟨3, .data⟩, ⟨7, .data⟩, ⟨7, .chain⟩], guard := none }
def oPa_9 : Oper := { dst := some 2, op := .assign (.tmp 25), type := 23, pos := "sums.go:62", after := #[⟨8, .data⟩, ⟨8, .chain⟩, ⟨0, .phase⟩, ⟨1, .phase⟩, ⟨2, .phase⟩, ⟨3, .phase⟩, ⟨4, .phase⟩, ⟨5, .phase⟩, ⟨6, .phase⟩, ⟨7, .phase⟩, ⟨8, .phase⟩], guard := none }
def opsPa : List Oper := [oPa_0, oPa_1, oPa_2, oPa_3, oPa_4, oPa_5, oPa_6, oPa_7, oPa_8, oPa_9]
def sPa : List Nat := [17, 18, 19, 20, 21, 22, 23, 24, 25, 2]
def spPa (gb ob nn cc kk A B : Nat) : List Spec := [spV (.slice (some ⟨gb, ob, none⟩) nn cc), spV (.int .i64 (kk : Nat)), spV (.slice (some ⟨gb, ob, none⟩) kk cc), spV (.int .u32 (A : Nat)), spV (.slice (some ⟨gb, ob, none⟩) nn cc), spV (.int .i64 (kk : Nat)), spV (.slice (some ⟨gb, ob + kk, none⟩) (nn - kk) (cc - kk)), spV (.int .u32 (B : Nat)), spV (.int .u32 (addV A B : Nat)), spV (.int .u32 (addV A B : Nat))]
structure EnvPa (a0 : Act) (w : World) (gb ob nn cc kk A B : Nat) : Prop where
  h0 : a0.tmps[0]? = some (.slice (some ⟨gb, ob, none⟩) nn cc)
  h1 : a0.tmps[3]? = some (.int .i64 (kk : Nat))
  l1 : kk < nn
  l2 : nn ≤ cc
  c1 : ∀ x, Q w x → Calls Tryd.prog 26 #[.slice (some ⟨gb, ob, none⟩) kk cc] x fun e x' => e = .returned (.int .u32 (A : Nat)) ∧ Q x x'
  c2 : ∀ x, Q w x → Calls Tryd.prog 26 #[.slice (some ⟨gb, ob + kk, none⟩) (nn - kk) (cc - kk)] x fun e x' => e = .returned (.int .u32 (B : Nat)) ∧ Q x x'
def skPa (i : Nat) : Bool := [].contains i
theorem yPa_0 {a0 : Act} {w : World} {gb ob nn cc kk A B : Nat} (E : EnvPa a0 w gb ob nn cc kk A B) {R : Exit → Act → World → Prop} {a : Act} {x : World} (q : Q w x) (oth : ∀ j, j ∉ sPa → a.tmps[j]? = a0.tmps[j]?) (dep : ∀ ed ∈ oPa_0.after, Region.binds .any ed = true → ∀ t', sPa[ed.on]? = some t' → ∃ v, a.tmps[t']? = some v ∧ specAt (spPa gb ob nn cc kk A B) ed.on v x) : Yld Tryd.prog R oPa_0 a x 17 (specAt (spPa gb ob nn cc kk A B) 0) := by
  exact yld_move ((oth 0 (by decide)).trans E.h0) rfl
theorem yPa_1 {a0 : Act} {w : World} {gb ob nn cc kk A B : Nat} (E : EnvPa a0 w gb ob nn cc kk A B) {R : Exit → Act → World → Prop} {a : Act} {x : World} (q : Q w x) (oth : ∀ j, j ∉ sPa → a.tmps[j]? = a0.tmps[j]?) (dep : ∀ ed ∈ oPa_1.after, Region.binds .any ed = true → ∀ t', sPa[ed.on]? = some t' → ∃ v, a.tmps[t']? = some v ∧ specAt (spPa gb ob nn cc kk A B) ed.on v x) : Yld Tryd.prog R oPa_1 a x 18 (specAt (spPa gb ob nn cc kk A B) 1) := by
  exact yld_move ((oth 3 (by decide)).trans E.h1) rfl
theorem yPa_2 {a0 : Act} {w : World} {gb ob nn cc kk A B : Nat} (E : EnvPa a0 w gb ob nn cc kk A B) {R : Exit → Act → World → Prop} {a : Act} {x : World} (q : Q w x) (oth : ∀ j, j ∉ sPa → a.tmps[j]? = a0.tmps[j]?) (dep : ∀ ed ∈ oPa_2.after, Region.binds .any ed = true → ∀ t', sPa[ed.on]? = some t' → ∃ v, a.tmps[t']? = some v ∧ specAt (spPa gb ob nn cc kk A B) ed.on v x) : Yld Tryd.prog R oPa_2 a x 19 (specAt (spPa gb ob nn cc kk A B) 2) := by
  obtain ⟨v0, t0, f0⟩ := dep ⟨0, .data⟩ (by simp [oPa_2]) rfl 17 rfl
  have f0 : v0 = (.slice (some ⟨gb, ob, none⟩) nn cc) := f0
  subst f0
  obtain ⟨v1, t1, f1⟩ := dep ⟨1, .data⟩ (by simp [oPa_2]) rfl 18 rfl
  have f1 : v1 = (.int .i64 (kk : Nat)) := f1
  subst f1
  exact yld_run (x' := x) rfl (run_slice_to (tmp_eval t0) (tmp_eval t1) E.l1 E.l2) (Q.refl x) rfl
theorem yPa_3 {a0 : Act} {w : World} {gb ob nn cc kk A B : Nat} (E : EnvPa a0 w gb ob nn cc kk A B) {R : Exit → Act → World → Prop} {a : Act} {x : World} (q : Q w x) (oth : ∀ j, j ∉ sPa → a.tmps[j]? = a0.tmps[j]?) (dep : ∀ ed ∈ oPa_3.after, Region.binds .any ed = true → ∀ t', sPa[ed.on]? = some t' → ∃ v, a.tmps[t']? = some v ∧ specAt (spPa gb ob nn cc kk A B) ed.on v x) : Yld Tryd.prog R oPa_3 a x 20 (specAt (spPa gb ob nn cc kk A B) 3) := by
  obtain ⟨v2, t2, f2⟩ := dep ⟨2, .data⟩ (by simp [oPa_3]) rfl 19 rfl
  have f2 : v2 = (.slice (some ⟨gb, ob, none⟩) kk cc) := f2
  subst f2
  refine yld_call (enters_of Tryd.func26 (by kernel_rfl) rfl) (args1 t2) ((E.c1 x q).mono ?_)
  rintro y x' ⟨rfl, q'⟩
  exact ⟨_, rfl, q', rfl⟩
theorem yPa_4 {a0 : Act} {w : World} {gb ob nn cc kk A B : Nat} (E : EnvPa a0 w gb ob nn cc kk A B) {R : Exit → Act → World → Prop} {a : Act} {x : World} (q : Q w x) (oth : ∀ j, j ∉ sPa → a.tmps[j]? = a0.tmps[j]?) (dep : ∀ ed ∈ oPa_4.after, Region.binds .any ed = true → ∀ t', sPa[ed.on]? = some t' → ∃ v, a.tmps[t']? = some v ∧ specAt (spPa gb ob nn cc kk A B) ed.on v x) : Yld Tryd.prog R oPa_4 a x 21 (specAt (spPa gb ob nn cc kk A B) 4) := by
  exact yld_move ((oth 0 (by decide)).trans E.h0) rfl
theorem yPa_5 {a0 : Act} {w : World} {gb ob nn cc kk A B : Nat} (E : EnvPa a0 w gb ob nn cc kk A B) {R : Exit → Act → World → Prop} {a : Act} {x : World} (q : Q w x) (oth : ∀ j, j ∉ sPa → a.tmps[j]? = a0.tmps[j]?) (dep : ∀ ed ∈ oPa_5.after, Region.binds .any ed = true → ∀ t', sPa[ed.on]? = some t' → ∃ v, a.tmps[t']? = some v ∧ specAt (spPa gb ob nn cc kk A B) ed.on v x) : Yld Tryd.prog R oPa_5 a x 22 (specAt (spPa gb ob nn cc kk A B) 5) := by
  exact yld_move ((oth 3 (by decide)).trans E.h1) rfl
theorem yPa_6 {a0 : Act} {w : World} {gb ob nn cc kk A B : Nat} (E : EnvPa a0 w gb ob nn cc kk A B) {R : Exit → Act → World → Prop} {a : Act} {x : World} (q : Q w x) (oth : ∀ j, j ∉ sPa → a.tmps[j]? = a0.tmps[j]?) (dep : ∀ ed ∈ oPa_6.after, Region.binds .any ed = true → ∀ t', sPa[ed.on]? = some t' → ∃ v, a.tmps[t']? = some v ∧ specAt (spPa gb ob nn cc kk A B) ed.on v x) : Yld Tryd.prog R oPa_6 a x 23 (specAt (spPa gb ob nn cc kk A B) 6) := by
  obtain ⟨v4, t4, f4⟩ := dep ⟨4, .data⟩ (by simp [oPa_6]) rfl 21 rfl
  have f4 : v4 = (.slice (some ⟨gb, ob, none⟩) nn cc) := f4
  subst f4
  obtain ⟨v5, t5, f5⟩ := dep ⟨5, .data⟩ (by simp [oPa_6]) rfl 22 rfl
  have f5 : v5 = (.int .i64 (kk : Nat)) := f5
  subst f5
  exact yld_run (x' := x) rfl (run_slice_from (tmp_eval t4) (tmp_eval t5) E.l1 E.l2) (Q.refl x) rfl
theorem yPa_7 {a0 : Act} {w : World} {gb ob nn cc kk A B : Nat} (E : EnvPa a0 w gb ob nn cc kk A B) {R : Exit → Act → World → Prop} {a : Act} {x : World} (q : Q w x) (oth : ∀ j, j ∉ sPa → a.tmps[j]? = a0.tmps[j]?) (dep : ∀ ed ∈ oPa_7.after, Region.binds .any ed = true → ∀ t', sPa[ed.on]? = some t' → ∃ v, a.tmps[t']? = some v ∧ specAt (spPa gb ob nn cc kk A B) ed.on v x) : Yld Tryd.prog R oPa_7 a x 24 (specAt (spPa gb ob nn cc kk A B) 7) := by
  obtain ⟨v6, t6, f6⟩ := dep ⟨6, .data⟩ (by simp [oPa_7]) rfl 23 rfl
  have f6 : v6 = (.slice (some ⟨gb, ob + kk, none⟩) (nn - kk) (cc - kk)) := f6
  subst f6
  refine yld_call (enters_of Tryd.func26 (by kernel_rfl) rfl) (args1 t6) ((E.c2 x q).mono ?_)
  rintro y x' ⟨rfl, q'⟩
  exact ⟨_, rfl, q', rfl⟩
theorem yPa_8 {a0 : Act} {w : World} {gb ob nn cc kk A B : Nat} (E : EnvPa a0 w gb ob nn cc kk A B) {R : Exit → Act → World → Prop} {a : Act} {x : World} (q : Q w x) (oth : ∀ j, j ∉ sPa → a.tmps[j]? = a0.tmps[j]?) (dep : ∀ ed ∈ oPa_8.after, Region.binds .any ed = true → ∀ t', sPa[ed.on]? = some t' → ∃ v, a.tmps[t']? = some v ∧ specAt (spPa gb ob nn cc kk A B) ed.on v x) : Yld Tryd.prog R oPa_8 a x 25 (specAt (spPa gb ob nn cc kk A B) 8) := by
  obtain ⟨v3, t3, f3⟩ := dep ⟨3, .data⟩ (by simp [oPa_8]) rfl 20 rfl
  have f3 : v3 = (.int .u32 (A : Nat)) := f3
  subst f3
  obtain ⟨v7, t7, f7⟩ := dep ⟨7, .data⟩ (by simp [oPa_8]) rfl 24 rfl
  have f7 : v7 = (.int .u32 (B : Nat)) := f7
  subst f7
  refine yld_call (enters_of Tryd.func49 (by kernel_rfl) rfl) (args2 t3 t7) ((cadd_any A B x).mono ?_)
  rintro y x' ⟨rfl, q'⟩
  exact ⟨_, rfl, q', rfl⟩
theorem yPa_9 {a0 : Act} {w : World} {gb ob nn cc kk A B : Nat} (E : EnvPa a0 w gb ob nn cc kk A B) {R : Exit → Act → World → Prop} {a : Act} {x : World} (q : Q w x) (oth : ∀ j, j ∉ sPa → a.tmps[j]? = a0.tmps[j]?) (dep : ∀ ed ∈ oPa_9.after, Region.binds .any ed = true → ∀ t', sPa[ed.on]? = some t' → ∃ v, a.tmps[t']? = some v ∧ specAt (spPa gb ob nn cc kk A B) ed.on v x) : Yld Tryd.prog R oPa_9 a x 2 (specAt (spPa gb ob nn cc kk A B) 9) := by
  obtain ⟨v8, t8, f8⟩ := dep ⟨8, .data⟩ (by simp [oPa_9]) rfl 25 rfl
  have f8 : v8 = (.int .u32 (addV A B : Nat)) := f8
  subst f8
  exact yld_run (x' := x) rfl (by rw [← tmp_eval t8]; rfl) (Q.refl x) rfl
theorem hopPa {a0 : Act} {w : World} {gb ob nn cc kk A B : Nat} (E : EnvPa a0 w gb ob nn cc kk A B) {R : Exit → Act → World → Prop} : ∀ (i t : Nat) (o : Oper) (a : Act) (x : World), skPa i = false → sPa[i]? = some t → opsPa[i]? = some o → Q w x → (∀ j, j ∉ sPa → a.tmps[j]? = a0.tmps[j]?) → (∀ ed ∈ o.after, Region.binds .any ed = true → ∀ t', sPa[ed.on]? = some t' → ∃ v, a.tmps[t']? = some v ∧ specAt (spPa gb ob nn cc kk A B) ed.on v x) → Yld Tryd.prog R o a x t (specAt (spPa gb ob nn cc kk A B) i)
  | 0, t, o, a, x, hi, ht, ho, q, oth, dep => by
    have e1 : oPa_0 = o := Option.some.inj ho
    have e2 : 17 = t := Option.some.inj ht
    subst e1 e2
    exact yPa_0 E q oth dep
  | 1, t, o, a, x, hi, ht, ho, q, oth, dep => by
    have e1 : oPa_1 = o := Option.some.inj ho
    have e2 : 18 = t := Option.some.inj ht
    subst e1 e2
    exact yPa_1 E q oth dep
  | 2, t, o, a, x, hi, ht, ho, q, oth, dep => by
    have e1 : oPa_2 = o := Option.some.inj ho
    have e2 : 19 = t := Option.some.inj ht
    subst e1 e2
    exact yPa_2 E q oth dep
  | 3, t, o, a, x, hi, ht, ho, q, oth, dep => by
    have e1 : oPa_3 = o := Option.some.inj ho
    have e2 : 20 = t := Option.some.inj ht
    subst e1 e2
    exact yPa_3 E q oth dep
  | 4, t, o, a, x, hi, ht, ho, q, oth, dep => by
    have e1 : oPa_4 = o := Option.some.inj ho
    have e2 : 21 = t := Option.some.inj ht
    subst e1 e2
    exact yPa_4 E q oth dep
  | 5, t, o, a, x, hi, ht, ho, q, oth, dep => by
    have e1 : oPa_5 = o := Option.some.inj ho
    have e2 : 22 = t := Option.some.inj ht
    subst e1 e2
    exact yPa_5 E q oth dep
  | 6, t, o, a, x, hi, ht, ho, q, oth, dep => by
    have e1 : oPa_6 = o := Option.some.inj ho
    have e2 : 23 = t := Option.some.inj ht
    subst e1 e2
    exact yPa_6 E q oth dep
  | 7, t, o, a, x, hi, ht, ho, q, oth, dep => by
    have e1 : oPa_7 = o := Option.some.inj ho
    have e2 : 24 = t := Option.some.inj ht
    subst e1 e2
    exact yPa_7 E q oth dep
  | 8, t, o, a, x, hi, ht, ho, q, oth, dep => by
    have e1 : oPa_8 = o := Option.some.inj ho
    have e2 : 25 = t := Option.some.inj ht
    subst e1 e2
    exact yPa_8 E q oth dep
  | 9, t, o, a, x, hi, ht, ho, q, oth, dep => by
    have e1 : oPa_9 = o := Option.some.inj ho
    have e2 : 2 = t := Option.some.inj ht
    subst e1 e2
    exact yPa_9 E q oth dep
  | i + 10, t, o, a, x, hi, ht, ho, q, oth, dep => by cases ho
theorem keyPa : ∀ i, i < 10 → ((opsPa[i]?).bind (fun o : Oper => o.guard) = none ∧ skPa i = false) := by decide +kernel
theorem hguPa {gb ob nn cc kk A B : Nat} : ∀ (i : Nat) (o : Oper) (g : Nat) (b : Bool), opsPa[i]? = some o → o.guard = some (g, b) → ∀ v x, specAt (spPa gb ob nn cc kk A B) g v x → (v = .bool b ↔ skPa i = false) := by
  intro i o g b ho hg v x hf
  have h := keyPa i (List.getElem?_eq_some_iff.1 ho).1
  rw [ho] at h
  simp only [Option.bind_some] at h
  rw [hg] at h
  rcases h with ⟨h, _⟩
  · cases h
theorem hgnPa : ∀ (i : Nat) (o : Oper), opsPa[i]? = some o → o.guard = none → skPa i = false := by
  intro i o ho hg
  have h := keyPa i (List.getElem?_eq_some_iff.1 ho).1
  rw [ho] at h
  simp only [Option.bind_some] at h
  rw [hg] at h
  rcases h with ⟨_, h⟩
  · exact h
theorem hskPa {gb ob nn cc kk A B : Nat} : ∀ (i : Nat) (x : World), skPa i = true → specAt (spPa gb ob nn cc kk A B) i undef x := by
  intro i x h
  cases h
theorem regionPa {id : Nat} {l : List Oper} {R : Exit → Act → World → Prop} {a0 : Act} {w : World} {gb ob nn cc kk A B : Nat} (hl : l = opsPa) (hsz : a0.tmps.size = 26) (E : EnvPa a0 w gb ob nn cc kk A B)
    (hR : ∀ a x, Q w x → a.defers = a0.defers → a.tmps[2]? = some (.int .u32 (addV A B : Nat)) → R .normal a x) :
    (Code.region id l.toArray true).wp Tryd.prog R a0 w := by
  subst hl
  refine wp_region_factsS sPa (specAt (spPa gb ob nn cc kk A B)) skPa (by kernel_rfl) (by decide +kernel) (by decide) (fun t ht => ?_) specAt.next hguPa hgnPa hskPa (hopPa E) (fun a x q size defers other facts => ?_)
  · rw [hsz]
    revert t
    decide
  · obtain ⟨v, tl, fl⟩ := facts 9 2 rfl
    have fl : v = .int .u32 (addV A B : Nat) := fl
    subst fl
    exact ⟨hR a x q defers tl⟩
set_option maxHeartbeats 2000000 in
theorem pairs_any : ∀ (n : Nat) (v : Value) (S : List Nat) (w : World), S.length ≤ n → USl w v S → S.length ≤ 35184372087808 → Calls Tryd.prog 26 #[v] w fun e w' => e = .returned (.int .u32 (pairsV S : Nat)) ∧ Q w w' := by
  intro n
  induction n with
  | zero =>
    intro v S w hl h hn
    obtain ⟨ad, cap, rfl⟩ := h.form
    have h0 : S.length = 0 := by omega
    rw [h0, pairsV_none h0]
    clear h
    go_enter Tryd.func26, Tryd.ntmps26
    go_wp2_with fail
    go_ret
    exact ⟨rfl, Q.refl _⟩
  | succ n ih =>
    intro v S w hl h hn
    obtain ⟨ad, cap, rfl⟩ := h.form
    by_cases h0 : S.length = 0
    · rw [h0, pairsV_none h0]
      clear h ih
      go_enter Tryd.func26, Tryd.ntmps26
      go_wp2_with fail
      go_ret
      exact ⟨rfl, Q.refl _⟩
    · obtain ⟨g, o, cap', he, hcap, hI⟩ := h.some (by omega)
      injection he with he1 he2 he3
      subst he1 he3
      clear he2
      by_cases h1 : S.length = 1
      · have c0 := hI 0 (by omega)
        rw [Nat.add_zero] at c0
        rw [h1, pairsV_one h1]
        generalize S.getD 0 0 = x at c0
        clear h ih hI
        go_enter Tryd.func26, Tryd.ntmps26
        go_wp2_with fail
        refine (cadd_any 2147483648 x _).mono ?_
        rintro e wz ⟨rfl, qz⟩
        go_wp2_with fail
        go_ret
        exact ⟨rfl, qz⟩
      · have hne0 : ((S.length : Int) == 0) = false := by rw [beq_eq_false_iff_ne]; omega
        have hne1 : ((S.length : Int) == 1) = false := by rw [beq_eq_false_iff_ne]; omega
        obtain ⟨k, hk⟩ : ∃ k, k = S.length / 2 := ⟨_, rfl⟩
        rw [pairsV_many (by omega), ← hk]
        have hk1 : 1 ≤ k := by omega
        have hk2 : k < S.length := by omega
        have hd : (S.length : Int) / 2 = (k : Int) := by omega
        have c1 := fun w' (q : Q w w') => ih (.slice (some ⟨g, o, none⟩) k cap) (S.take k) w' (by rw [List.length_take]; omega) (by
          have := ((hI.next q).take k).usl (cap := cap) (by rw [List.length_take]; omega)
          rw [List.length_take, Nat.min_eq_left (by omega)] at this
          exact this) (by rw [List.length_take]; omega)
        have c2 := fun w' (q : Q w w') => ih (.slice (some ⟨g, o + k, none⟩) (S.length - k) (cap - k)) (S.drop k) w' (by rw [List.length_drop]; omega) (by
          have := ((hI.next q).drop k).usl (cap := cap - k) (by rw [List.length_drop]; omega)
          rw [List.length_drop] at this
          exact this) (by rw [List.length_drop]; omega)
        generalize pairsV (S.take k) = A at c1
        generalize pairsV (S.drop k) = B at c2
        have C1 : Hid _ := c1
        have C2 : Hid _ := c2
        clear c1 c2 ih h hI hk
        go_enter Tryd.func26, Tryd.ntmps26
        go_wp2_with fail
        refine regionPa rfl rfl ⟨rfl, rfl, by omega, hcap, C1.out, C2.out⟩ ?_
        intro a9 x9 q9 df t4
        have HQ9 : Hid (Q w x9) := q9
        clear q9
        go_wp2_with fail
        obtain ⟨tm, dd⟩ := a9
        have df : dd = [] := df
        subst df
        have t4 : tm[2]? = some (.int .u32 (addV A B : Nat)) := t4
        go_ret
        have t4' : tm.getD 2 undef = .int .u32 (addV A B : Nat) := by rw [Array.getD_eq_getD_getElem?, t4]; rfl
        exact ⟨congrArg Ending.returned t4', HQ9.out⟩
/-- With what was lost carried along. -/
def kahS (p : Nat × Nat) (s : Nat) : Nat × Nat := (addV p.1 (subV s p.2), subV (subV (addV p.1 (subV s p.2)) p.1) (subV s p.2))
def kahV (l : List Nat) : Nat := if l = [] then 0 else ((l.drop 1).foldl kahS (addV 2147483648 (l.getD 0 0), 0)).1
theorem csubV (a b : Nat) (w : World) : Calls Tryd.prog 50 #[.int .u32 (a : Int), .int .u32 (b : Int)] w fun e w' => e = .returned (.int .u32 (subV a b : Nat)) ∧ Q w w' := csub_any a b w
theorem caddV (a b : Nat) (w : World) : Calls Tryd.prog 49 #[.int .u32 (a : Int), .int .u32 (b : Int)] w fun e w' => e = .returned (.int .u32 (addV a b : Nat)) ∧ Q w w' := cadd_any a b w
set_option maxHeartbeats 2000000 in
theorem kahan_any (v : Value) (S : List Nat) (w : World) (h : USl w v S) (hn : S.length ≤ 35184372087808) : Calls Tryd.prog 27 #[v] w fun e w' => e = .returned (.int .u32 (kahV S : Nat)) ∧ Q w w' := by
  obtain ⟨ad, cap, rfl⟩ := h.form
  by_cases h0 : S.length = 0
  · have hS : S = [] := List.eq_nil_of_length_eq_zero h0
    rw [h0]
    have e : kahV S = 0 := by rw [hS]; rfl
    rw [e]
    clear e hS h
    go_enter Tryd.func27, Tryd.ntmps27
    go_wp2_with fail
    go_ret
    exact ⟨rfl, Q.refl _⟩
  · obtain ⟨g, o, cap', he, hcap, hI⟩ := h.some (by omega)
    injection he with he1 he2 he3
    subst he1 he3
    clear he2
    have hne : ((S.length : Int) == 0) = false := by rw [beq_eq_false_iff_ne]; omega
    have e : kahV S = ((S.drop 1).foldl kahS (addV 2147483648 (S.getD 0 0), 0)).1 := by unfold kahV; rw [if_neg (fun e => h0 (by rw [e]; rfl))]
    rw [e]
    have c0 := hI 0 (by omega)
    rw [Nat.add_zero] at c0
    have HI : Hid (UIs w g (o + 1) (S.drop 1)) := hI.drop 1
    have hl : (S.drop 1).length = S.length - 1 := List.length_drop
    have hpos : 1 ≤ S.length := by omega
    generalize S.getD 0 0 = x0 at c0
    have HL : Hid ((S.drop 1).length = S.length - 1) := hl
    generalize S.drop 1 = D at HI HL
    clear e h hI h0 hl
    go_enter Tryd.func27, Tryd.ntmps27
    go_wp2_with fail
    refine (caddV 2147483648 x0 _).mono ?_
    rintro e w1 ⟨rfl, q1⟩
    have HQ1 : Hid (Q w w1) := q1
    clear q1 c0
    go_wp2_with fail
    case inl =>
      have hs1 : S.length = 1 := by omega
      go_loopg [3, 4, 19] (D.length) (fun gh s3 s4 s19 wr => ∃ i : Nat, s3 = .int .u32 (((D.take i).foldl kahS (addV 2147483648 x0, 0)).1 : Nat) ∧ s4 = .int .u32 (((D.take i).foldl kahS (addV 2147483648 x0, 0)).2 : Nat) ∧ s19 = .int .i64 (i : Int) ∧ i ≤ D.length ∧ gh = D.length - i ∧ Q w wr)
      case atStart => exact ⟨0, rfl, rfl, rfl, by omega, rfl, HQ1.out⟩
      case round =>
        obtain ⟨i, rfl, rfl, rfl, hi, rfl, qr⟩ := hrel
        by_cases hlt : i < D.length
        · exfalso
          have hlD := HL.out
          omega
        · obtain rfl : i = D.length := by omega
          have HQ : Hid (Q w wr) := qr
          have hnl : ¬ ((D.length : Int) < ((S.length - 1 : Nat) : Int)) := by have hlD := HL.out; omega
          simp only [List.take_length]
          clear qr
          go_wp2_with fail
          go_ret
          exact ⟨rfl, HQ.out⟩
    case inr =>
      go_loopg [3, 4, 19] (D.length) (fun gh s3 s4 s19 wr => ∃ i : Nat, s3 = .int .u32 (((D.take i).foldl kahS (addV 2147483648 x0, 0)).1 : Nat) ∧ s4 = .int .u32 (((D.take i).foldl kahS (addV 2147483648 x0, 0)).2 : Nat) ∧ s19 = .int .i64 (i : Int) ∧ i ≤ D.length ∧ gh = D.length - i ∧ Q w wr)
      case atStart => exact ⟨0, rfl, rfl, rfl, by omega, rfl, HQ1.out⟩
      case round =>
        obtain ⟨i, rfl, rfl, rfl, hi, rfl, qr⟩ := hrel
        by_cases hlt : i < D.length
        · have hc := qr.cell (HI.out i hlt)
          have HF : Hid ((D.take (i + 1)).foldl kahS (addV 2147483648 x0, 0) = kahS ((D.take i).foldl kahS (addV 2147483648 x0, 0)) (D.getD i 0)) := take_succ_foldl _ _ _ _ hlt
          have HQ : Hid (Q w wr) := qr
          generalize D.getD i 0 = y at hc HF
          generalize (D.take i).foldl kahS (addV 2147483648 x0, 0) = P at HF
          obtain ⟨A, C⟩ := P
          have hlt' : (i : Int) < ((S.length - 1 : Nat) : Int) := by have hlD := HL.out; omega
          clear qr
          go_wp2_with fail
          refine (csubV y C _).mono ?_
          rintro e w2 ⟨rfl, q2⟩
          go_wp2_with fail
          refine (caddV A (subV y C) _).mono ?_
          rintro e w3 ⟨rfl, q3⟩
          go_wp2_with fail
          refine (csubV (addV A (subV y C)) A _).mono ?_
          rintro e w4 ⟨rfl, q4⟩
          go_wp2_with fail
          refine (csubV (subV (addV A (subV y C)) A) (subV y C) _).mono ?_
          rintro e w5 ⟨rfl, q5⟩
          go_wp2_with fail
          go_roundg (D.length - (i + 1))
          case measure => go_light; omega
          case rel =>
            go_light
            exact ⟨i + 1, by rw [HF.out]; rfl, by rw [HF.out]; rfl, by simp, by omega, rfl, (((HQ.out.trans q2).trans q3).trans q4).trans q5⟩
        · obtain rfl : i = D.length := by omega
          have HQ : Hid (Q w wr) := qr
          have hnl : ¬ ((D.length : Int) < ((S.length - 1 : Nat) : Int)) := by have hlD := HL.out; omega
          simp only [List.take_length]
          clear qr
          go_wp2_with fail
          go_ret
          exact ⟨rfl, HQ.out⟩
end Go.Proofs.YtnjagokojdpgpabDoor
/- Sums in binary64, one behind the other: what the program tells. -/
namespace Go.Proofs.YtnjagokojdpgpabDoor
open Go.RowKit
set_option linter.unusedVariables false
set_option linter.unusedSimpArgs false

/-- What is told of a datum in binary64. -/
def told64 : Option Ieee.Datum → Nat
  | none => 9221120237041090560
  | some (.nan ..) => 9221120237041090560
  | some d => Ieee.double.write d
/-- A word of binary64, of NaNs one. -/
def canW (W : Nat) : Nat := if nan64 W = true then 9221120237041090560 else W
def add64V (a b : Nat) : Nat := told64 ((Ieee.double.read a).sum (Ieee.double.read b))
theorem sum64_nan {d : Ieee.Datum} (h : d.isNaN = true) (d' : Ieee.Datum) : told64 (d.sum d') = 9221120237041090560 := by
  obtain ⟨s, t, rfl⟩ := isNaN_cases h
  cases d' <;> rfl
theorem made64 : nan64 9221120237041090560 = true := by decide
theorem can_sum (W X : Nat) : add64V (canW W) X = add64V W X := by
  unfold canW
  cases h : nan64 W
  · rfl
  · rw [if_pos rfl]
    unfold add64V
    rw [sum64_nan (read64_nan h), sum64_nan (read64_nan made64)]
theorem told64_some {d : Ieee.Datum} (h : d.isNaN = false) : told64 (some d) = Ieee.double.write d := by
  cases d with
  | nan s t => cases h
  | infinity s => rfl
  | number s m p => rfl
theorem can_some {d : Ieee.Datum} (h : d.isNaN = false) : canW (Ieee.double.write d) = told64 (some d) := by
  unfold canW
  rw [nan64_write h, if_neg (by decide), told64_some h]
theorem can_none (x y : Nat) (w : World) : canW (nanw .f64 x y w) = 9221120237041090560 := by
  unfold canW
  rw [(nanw64 x y w).1, if_pos rfl]
set_option maxHeartbeats 400000 in
theorem swide_any (a : Nat) (ha : a < 4294967296) (w : World) : Calls Tryd.prog 62 #[.int .u32 (a : Int)] w fun e w' => e = .returned (.float .f64 (wideW a)) ∧ Q w w' := by
  have l1 := f64from
  go_enter Tryd.func62, Tryd.ntmps62
  go_wp2_with fail
  refine (cwide_any a ha _).mono ?_
  rintro e w1 ⟨rfl, q1⟩
  go_wp2_with fail
  go_ret
  exact ⟨by simp, q1⟩
set_option maxHeartbeats 400000 in
theorem widebits_any (W : Nat) (hW : W < 18446744073709551616) (w : World) : Calls Tryd.prog 53 #[.float .f64 W] w fun e w' => e = .returned (.int .u64 (canW W : Nat)) ∧ w' = w := by
  have l1 := f64bits
  have k := fun w => isnan64_any W w
  unfold canW
  cases h : nan64 W
  · rw [h] at k
    clear h
    go_enter Tryd.func53, Tryd.ntmps53
    go_wp2_with fail
    refine (k _).mono ?_
    rintro e w1 ⟨rfl, rfl⟩
    go_wp2_with fail
    go_ret
    exact ⟨rfl, rfl⟩
  · rw [h] at k
    clear h
    go_enter Tryd.func53, Tryd.ntmps53
    go_wp2_with fail
    refine (k _).mono ?_
    rintro e w1 ⟨rfl, rfl⟩
    go_wp2_with fail
    go_ret
    exact ⟨rfl, rfl⟩
set_option maxHeartbeats 400000 in
theorem copysign_any (w : World) : Calls Tryd.prog 61 #[.float .f64 0, .float .f64 13830554455654793216] w fun e w' => e = .returned (.float .f64 9223372036854775808) ∧ w' = w := by
  have l1 : ∀ w, (callFunc 71 #[.float .f64 0]).run Tryd.prog w = .ok (.value (.int .u64 0)) w := fun w => f64bits 0 w
  have l2 : ∀ w, (callFunc 71 #[.float .f64 13830554455654793216]).run Tryd.prog w = .ok (.value (.int .u64 13830554455654793216)) w := fun w => f64bits 13830554455654793216 w
  have l3 : ∀ w, (callFunc 72 #[.int .u64 9223372036854775808]).run Tryd.prog w = .ok (.value (.float .f64 9223372036854775808)) w := fun w => f64from 9223372036854775808 w
  have e1 : bits .andNot .u64 0 9223372036854775808 = 0 := by decide +kernel
  have e2 : bits .and .u64 13830554455654793216 9223372036854775808 = 9223372036854775808 := by decide +kernel
  have e3 : bits .or .u64 0 9223372036854775808 = 9223372036854775808 := by decide +kernel
  go_enter Tryd.func61, Tryd.ntmps61
  go_wp2_with fail
  go_ret
  exact ⟨rfl, rfl⟩
def left64V (l : List Nat) : Nat := if l = [] then 0 else l.foldl (fun z s => add64V z (wideW s)) 9223372036854775808
set_option maxHeartbeats 2000000 in
theorem left64_any (v : Value) (S : List Nat) (w : World) (h : USl w v S) (hn : S.length ≤ 35184372087808) (hb : ∀ i, S.getD i 0 < 4294967296) : Calls Tryd.prog 34 #[v] w fun e w' => e = .returned (.int .u64 (left64V S : Nat)) ∧ Q w w' := by
  obtain ⟨ad, cap, rfl⟩ := h.form
  by_cases h0 : S.length = 0
  · have hS : S = [] := List.eq_nil_of_length_eq_zero h0
    rw [h0]
    have e : left64V S = 0 := by rw [hS]; rfl
    rw [e]
    clear e hS h hb
    go_enter Tryd.func34, Tryd.ntmps34
    go_wp2_with fail
    go_ret
    exact ⟨rfl, Q.refl _⟩
  · obtain ⟨g, o, cap', he, hcap, hI⟩ := h.some (by omega)
    injection he with he1 he2 he3
    subst he1 he3
    clear he2
    have HI : Hid (UIs w g o S) := hI
    have hne : ((S.length : Int) == 0) = false := by rw [beq_eq_false_iff_ne]; omega
    have e : left64V S = S.foldl (fun z s => add64V z (wideW s)) 9223372036854775808 := by unfold left64V; rw [if_neg (fun e => h0 (by rw [e]; rfl))]
    rw [e]
    have HN : Hid (¬ S.length = 0) := h0
    have HB : Hid (∀ i, S.getD i 0 < 4294967296) := hb
    clear e h hI h0 hb
    go_enter Tryd.func34, Tryd.ntmps34
    go_wp2_with fail
    refine (copysign_any _).mono ?_
    rintro e w0 ⟨rfl, rfl⟩
    go_wp2_with fail
    go_loopg [3, 12] (S.length) (fun gh s3 s12 wr => ∃ i W : Nat, s3 = .float .f64 W ∧ Hid (canW W = (S.take i).foldl (fun z s => add64V z (wideW s)) 9223372036854775808) ∧ W < 18446744073709551616 ∧ s12 = .int .i64 (i : Int) ∧ i ≤ S.length ∧ gh = S.length - i ∧ Q w0 wr)
    case atStart => exact ⟨0, 9223372036854775808, rfl, (show canW 9223372036854775808 = 9223372036854775808 by decide +kernel), by decide, rfl, by omega, rfl, Q.refl _⟩
    case round =>
      obtain ⟨i, W, rfl, HW, hW, rfl, hi, rfl, qr⟩ := hrel
      by_cases hlt : i < S.length
      · have hc := qr.cell (HI.out i hlt)
        have HF : Hid ((S.take (i + 1)).foldl (fun z s => add64V z (wideW s)) 9223372036854775808 = add64V ((S.take i).foldl (fun z s => add64V z (wideW s)) 9223372036854775808) (wideW (S.getD i 0))) := take_succ_foldl _ _ _ _ hlt
        have HQ : Hid (Q w0 wr) := qr
        have hx := HB.out i
        generalize S.getD i 0 = x at hc HF hx
        have HC : Hid (∀ W', canW W' = add64V W (wideW x) → canW W' = (S.take (i + 1)).foldl (fun z s => add64V z (wideW s)) 9223372036854775808) := fun W' h => by rw [HF.out, ← HW.out, can_sum]; exact h
        clear qr HF HW
        cases hd : (Ieee.double.read W).sum (Ieee.double.read (wideW x)) with
        | none =>
          have hf : floatBits .add .f64 W (wideW x) = none := by
            show ((Ieee.double.read W).sum (Ieee.double.read (wideW x))).map Ieee.double.write = none
            rw [hd]; rfl
          have l1 := fun w => run_arith_none .add (by simp) 79 .f64 W (wideW x) hf Tryd.prog w
          have HE : Hid (add64V W (wideW x) = 9221120237041090560) := by show add64V W (wideW x) = _; unfold add64V; rw [hd]; rfl
          clear hd hf
          go_wp2_with fail
          refine (swide_any x hx _).mono ?_
          rintro e w2 ⟨rfl, q2⟩
          go_wp2_with fail
          go_roundg (S.length - (i + 1))
          case measure => go_light; omega
          case rel =>
            go_light
            exact ⟨i + 1, _, rfl, HC.out _ (by rw [HE.out]; exact can_none _ _ _), (nanw64 _ _ _).2, by simp, by omega, rfl, (HQ.out.trans q2).drew⟩
        | some d =>
          have hf : floatBits .add .f64 W (wideW x) = some (Ieee.double.write d) := by
            show ((Ieee.double.read W).sum (Ieee.double.read (wideW x))).map Ieee.double.write = _
            rw [hd]; rfl
          have l1 := fun w => run_float_arith (P := Tryd.prog) w .add 79 .f64 W (wideW x) _ hf
          have HE : Hid (add64V W (wideW x) = told64 (some d)) := by show add64V W (wideW x) = _; unfold add64V; rw [hd]
          have HD : Hid (d.isNaN = false) := sum_num hd
          clear hd hf
          go_wp2_with fail
          refine (swide_any x hx _).mono ?_
          rintro e w2 ⟨rfl, q2⟩
          go_wp2_with fail
          go_roundg (S.length - (i + 1))
          case measure => go_light; omega
          case rel =>
            go_light
            exact ⟨i + 1, _, rfl, HC.out _ (by rw [HE.out]; exact can_some HD.out), write64_lt d, by simp, by omega, rfl, HQ.out.trans q2⟩
      · obtain rfl : i = S.length := by omega
        have HQ : Hid (Q w0 wr) := qr
        have HW' : Hid (canW W = S.foldl (fun z s => add64V z (wideW s)) 9223372036854775808) := by have h := HW.out; rw [List.take_length] at h; exact h
        clear qr HW
        go_wp2_with fail
        refine (widebits_any W hW _).mono ?_
        rintro e w3 ⟨rfl, rfl⟩
        rw [HW'.out]
        go_wp2_with fail
        go_ret
        exact ⟨rfl, HQ.out⟩
end Go.Proofs.YtnjagokojdpgpabDoor
/- The document's sums one behind the other, by halves, with what was lost carried along: the same as the program's. -/
namespace Go.Proofs.YtnjagokojdpgpabDoor
open Go.RowKit
set_option linter.unusedVariables false
set_option linter.unusedSimpArgs false

theorem radd_told (a b : Nat) : roundR (plusR (numOf Ieee.single a) (numOf Ieee.single b)) = addV a b := by
  rw [numOf_datum, numOf_datum, plus_link]; rfl
theorem rsub_told (a b : Nat) : roundR (plusR (numOf Ieee.single a) (oppR (numOf Ieee.single b))) = subV a b := by
  rw [numOf_datum, numOf_datum, opp_link, plus_link]; rfl
theorem addV_lt (a b : Nat) : addV a b < 4294967296 := toldD_lt _
theorem subV_lt (a b : Nat) : subV a b < 4294967296 := toldD_lt _
theorem first_eq {a : Nat} (ha : a < 4294967296) : addV 2147483648 a = if nanN a = true then 2143289344 else a := by
  unfold addV
  rw [sum_comm, add_nought ha]
  cases h : nanN a
  · rw [madeN_of h]; rfl
  · rw [madeN_nan h]; rfl
theorem fold_lt {S : List Nat} (h : S ≠ []) : S.foldl addV 2147483648 < 4294967296 := by
  have key : ∀ (l : List Nat) (z : Nat), z < 4294967296 → l.foldl addV z < 4294967296 := by
    intro l
    induction l with
    | nil => exact fun z h => h
    | cons x l ih => exact fun z h => ih _ (addV_lt _ _)
  exact key S _ (by decide)
theorem take_one {S : List Nat} (h : 0 < S.length) : S.take 1 = [S.getD 0 0] := by
  cases S with
  | nil => cases h
  | cons x l => rfl
def oRp_0 : Oper := { dst := some 17, op := .move (.tmp 0), type := 22, pos := "halideref3.go:61", after := #[], guard := none }
def oRp_1 : Oper := { dst := some 18, op := .move (.tmp 3), type := 3, pos := "halideref3.go:61", after := #[], guard := none }
def oRp_2 : Oper := { dst := some 19, op := .slice 22 (.tmp 17) none (some (.tmp 18)) none, type := 22, pos := "halideref3.go:61", after := #[⟨0, .data⟩, ⟨1, .data⟩], guard := none }
def oRp_4 : Oper := { dst := some 21, op := .move (.tmp 0), type := 22, pos := "halideref3.go:61", after := #[], guard := none }
def oRp_5 : Oper := { dst := some 22, op := .move (.tmp 3), type := 3, pos := "halideref3.go:61", after := #[], guard := none }
def oRp_6 : Oper := { dst := some 23, op := .slice 22 (.tmp 21) (some (.tmp 22)) none none, type := 22, pos := "halideref3.go:61", after := #[⟨4, .data⟩, ⟨5, .data⟩], guard := none }
def oRp_9 : Oper := { dst := some 2, op := .assign (.tmp 25), type := 23, pos := "halideref3.go:61", after := #[⟨8, .data⟩, ⟨8, .chain⟩, ⟨0, .phase⟩, ⟨1, .phase⟩, ⟨2, .phase⟩, ⟨3, .phase⟩, ⟨4, .phase⟩, ⟨5, .phase⟩, ⟨6, .phase⟩, ⟨7, .phase⟩, ⟨8, .phase⟩], guard := none }
def sRp : List Nat := [17, 18, 19, 20, 21, 22, 23, 24, 25, 2]
def spRp (gb ob nn cc kk A B : Nat) : List Spec := [spV (.slice (some ⟨gb, ob, none⟩) nn cc), spV (.int .i64 (kk : Nat)), spV (.slice (some ⟨gb, ob, none⟩) kk cc), spV (.int .u32 (A : Nat)), spV (.slice (some ⟨gb, ob, none⟩) nn cc), spV (.int .i64 (kk : Nat)), spV (.slice (some ⟨gb, ob + kk, none⟩) (nn - kk) (cc - kk)), spV (.int .u32 (B : Nat)), spV (.int .u32 (addV A B : Nat)), spV (.int .u32 (addV A B : Nat))]
def skRp (i : Nat) : Bool := [].contains i
theorem hskRp {gb ob nn cc kk A B : Nat} : ∀ (i : Nat) (x : World), skRp i = true → specAt (spRp gb ob nn cc kk A B) i undef x := by
  intro i x h
  cases h
theorem take_lt {S : List Nat} (hb : ∀ i, S.getD i 0 < 4294967296) (k i : Nat) : (S.take k).getD i 0 < 4294967296 := by
  rw [List.getD_eq_getElem?_getD, List.getElem?_take]
  split
  · rw [← List.getD_eq_getElem?_getD]; exact hb i
  · decide
theorem drop_lt {S : List Nat} (hb : ∀ i, S.getD i 0 < 4294967296) (k i : Nat) : (S.drop k).getD i 0 < 4294967296 := by
  rw [List.getD_eq_getElem?_getD, List.getElem?_drop, ← List.getD_eq_getElem?_getD]
  exact hb _
theorem pairsV_lt (l : List Nat) : pairsV l < 4294967296 := by
  rcases Nat.lt_or_ge l.length 2 with h | h
  · have : l.length = 0 ∨ l.length = 1 := by omega
    rcases this with h | h
    · rw [pairsV_none h]; decide
    · rw [pairsV_one h]; exact addV_lt _ _
  · rw [pairsV_many h]; exact addV_lt _ _
end Go.Proofs.YtnjagokojdpgpabDoor
