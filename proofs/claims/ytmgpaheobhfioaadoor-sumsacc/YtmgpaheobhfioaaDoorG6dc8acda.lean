/- A region that draws its order and stores nothing: each operation with a fact that lasts; those that are guarded are known to be let through, or known to be left out. -/
import Derived.Test.YtmgpaheobhfioaaDoorG24259f96
import Derived.Test.YtmgpaheobhfioaaDoorG69c79473
import Derived.Test.YtmgpaheobhfioaaDoorG8dbd2455
import Derived.Test.YtmgpaheobhfioaaDoorGb5d5ad33
import Derived.Test.YtmgpaheobhfioaaDoorGe9f3539d
namespace Go.Proofs.YtmgpaheobhfioaaDoor
open Go.RowKit
set_option linter.unusedVariables false
set_option linter.unusedSimpArgs false

theorem dst_mem {l : List Oper} {s : List Nat} (hs : l.map (fun o : Oper => o.dst) = s.map some) {k j : Nat} (h : dstOf l k = some j) : s[k]? = some j := by
  unfold dstOf at h
  have h1 : (l.map (fun o : Oper => o.dst))[k]? = (s.map some)[k]? := by rw [hs]
  rw [List.getElem?_map, List.getElem?_map] at h1
  cases hl : l[k]? with
  | none => rw [hl] at h; cases h
  | some o =>
    rw [hl] at h h1
    cases hk : s[k]? with
    | none => rw [hk] at h1; cases h1
    | some t =>
      rw [hk] at h1
      have h2 : some o.dst = some (some t) := h1
      injection h2 with h2
      have h3 : o.dst = some j := h
      rw [h2] at h3
      injection h3 with h3
      rw [h3]
theorem dst_of {l : List Oper} {s : List Nat} (hs : l.map (fun o : Oper => o.dst) = s.map some) {k j : Nat} (h : s[k]? = some j) : dstOf l k = some j := by
  have h1 : (l.map (fun o : Oper => o.dst))[k]? = (s.map some)[k]? := by rw [hs]
  rw [List.getElem?_map, List.getElem?_map, h] at h1
  unfold dstOf
  cases hl : l[k]? with
  | none => rw [hl] at h1; cases h1
  | some o =>
    rw [hl] at h1
    have h2 : some o.dst = some (some j) := h1
    injection h2
set_option maxHeartbeats 1000000 in
theorem wp_region_factsS {P : Program} {id : Nat} {R : Exit → Act → World → Prop} {a0 : Act} {w : World} {l : List Oper} (s : List Nat) (F : Nat → Value → World → Prop) (skip : Nat → Bool)
    (hm : P.follows .mixedOrders = true) (hB : regS l = true) (hs : l.map (fun o : Oper => o.dst) = s.map some) (hmax : ∀ t ∈ s, t < a0.tmps.size)
    (hst : ∀ i v x x', F i v x → Q x x' → F i v x')
    (hgu : ∀ (i : Nat) (o : Oper) (g : Nat) (b : Bool), l[i]? = some o → o.guard = some (g, b) → ∀ v x, F g v x → (v = .bool b ↔ skip i = false))
    (hgn : ∀ (i : Nat) (o : Oper), l[i]? = some o → o.guard = none → skip i = false)
    (hsk : ∀ i x, skip i = true → F i undef x)
    (hop : ∀ i t o (a : Act) x, skip i = false → s[i]? = some t → l[i]? = some o → Q w x → (∀ j, j ∉ s → a.tmps[j]? = a0.tmps[j]?) → (∀ ed ∈ o.after, Region.binds .any ed = true → ∀ t', s[ed.on]? = some t' → ∃ v, a.tmps[t']? = some v ∧ F ed.on v x) → Yld P R o a x t (F i))
    (hend : ∀ (a : Act) x, Q w x → a.tmps.size = a0.tmps.size → a.defers = a0.defers → (∀ j, j ∉ s → a.tmps[j]? = a0.tmps[j]?) → (∀ i t, s[i]? = some t → ∃ v, a.tmps[t]? = some v ∧ F i v x) → Shut (R .normal a x)) :
    (Code.region id l.toArray true).wp P R a0 w := by
  have oth : ∀ {a : Act}, (∀ j, (∀ k, dstOf l k ≠ some j) → a.tmps[j]? = a0.tmps[j]?) → ∀ j, j ∉ s → a.tmps[j]? = a0.tmps[j]? := fun h j hj => h j (fun k hk => hj (List.mem_of_getElem? (dst_mem hs hk)))
  refine wp_region_slots (fun done val x => Q w x ∧ ∀ i, done i = true → F i (val i) x) hm hB (fun i t h => hmax t (List.mem_of_getElem? (dst_mem hs h))) ⟨(Q.refl w).drew, fun i h => by cases h⟩ ?_ ?_ ?_
  · intro i o a x done val ho hd hdep I hoth hvals hg
    have hil : i < l.length := (List.getElem?_eq_some_iff.1 ho).1
    have hlen : l.length = s.length := by have := congrArg List.length hs; simpa using this
    obtain ⟨t, ht⟩ : ∃ t, s[i]? = some t := ⟨_, List.getElem?_eq_getElem (by omega)⟩
    have hdst : o.dst = some t := by rw [← dstOf_at ho]; exact dst_of hs ht
    have hski : skip i = false := by
      cases hgd : o.guard with
      | none => exact hgn i o ho hgd
      | some gb =>
        obtain ⟨g, b⟩ := gb
        obtain ⟨⟨ed, he, hb, hon⟩, _⟩ := (regS_at hB ho).1 g b hgd
        have hdone := hdep ed he hb
        rw [hon] at hdone
        exact (hgu i o g b ho hgd (val g) x (I.2 g hdone)).1 (hg g b hgd)
    have hrun := hop i t o a x hski ht ho I.1 (oth hoth) (fun ed he hb t' ht' => ⟨val ed.on, hvals ed.on t' (hdep ed he hb) (dst_of hs ht'), I.2 ed.on (hdep ed he hb)⟩)
    refine ⟨Oper.wp_mono ?_ hrun.out⟩
    rintro a' x' ⟨v, rfl, q', hf⟩
    refine ⟨v, by rw [hdst], I.1.trans q', fun j hj => ?_⟩
    by_cases e : j = i
    · subst e; rw [upd_eq]; exact hf
    · rw [upd_ne _ _ e] at hj ⊢
      exact hst _ _ _ _ (I.2 j hj) q'
  · intro i o x done val g b ho hd hdep I hgd hne
    have hsk' : skip i = true := by
      cases h : skip i with
      | true => rfl
      | false =>
        obtain ⟨⟨ed, he, hb, hon⟩, _⟩ := (regS_at hB ho).1 g b hgd
        have hdone := hdep ed he hb
        rw [hon] at hdone
        exact absurd ((hgu i o g b ho hgd (val g) x (I.2 g hdone)).2 h) hne
    refine ⟨I.1, fun j hj => ?_⟩
    by_cases e : j = i
    · subst e; rw [upd_eq]; exact hsk _ _ hsk'
    · rw [upd_ne _ _ e] at hj ⊢
      exact I.2 j hj
  · intro a x val I size defers other vals
    refine hend a x I.1 size defers (oth other) (fun i t ht => ⟨val i, vals i t (dst_of hs ht), I.2 i ?_⟩)
    have hlen : l.length = s.length := by have := congrArg List.length hs; simpa using this
    have := (List.getElem?_eq_some_iff.1 ht).1
    exact decide_eq_true (by omega)
end Go.Proofs.YtmgpaheobhfioaaDoor
/- Sums: one behind the other, by halves, with what was lost carried along: what the program tells. -/
namespace Go.Proofs.YtmgpaheobhfioaaDoor
open Go.RowKit
set_option linter.unusedVariables false
set_option linter.unusedSimpArgs false

/-- A sum, rounded to binary32. -/
def addV (a b : Nat) : Nat := toldD ((Ieee.single.read a).sum (Ieee.single.read b))
def subV (a b : Nat) : Nat := toldD ((Ieee.single.read a).sum (Ieee.single.read b).opposite)
def leftV (l : List Nat) : Nat := if l = [] then 0 else l.foldl addV 2147483648
theorem take_succ_foldl {α β : Type} (f : β → α → β) (z : β) (l : List α) (d : α) {i : Nat} (h : i < l.length) : (l.take (i + 1)).foldl f z = f ((l.take i).foldl f z) (l.getD i d) := by
  rw [List.take_succ_eq_append_getElem h, List.foldl_append, List.getD_eq_getElem?_getD, List.getElem?_eq_getElem h]; rfl
set_option maxHeartbeats 2000000 in
theorem left_any (v : Value) (S : List Nat) (w : World) (h : USl w v S) (hn : S.length ≤ 35184372087808) : Calls Tryd.prog 24 #[v] w fun e w' => e = .returned (.int .u32 (leftV S : Nat)) ∧ Q w w' := by
  obtain ⟨ad, cap, rfl⟩ := h.form
  by_cases h0 : S.length = 0
  · have hS : S = [] := List.eq_nil_of_length_eq_zero h0
    rw [h0]
    have e : leftV S = 0 := by rw [hS]; rfl
    rw [e]
    clear e hS h
    go_enter Tryd.func24, Tryd.ntmps24
    go_wp2_with fail
    go_ret
    exact ⟨rfl, Q.refl _⟩
  · obtain ⟨g, o, cap', he, hcap, hI⟩ := h.some (by omega)
    injection he with he1 he2 he3
    subst he1 he3
    have HI : Hid (UIs w g o S) := hI
    have hne : ((S.length : Int) == 0) = false := by rw [beq_eq_false_iff_ne]; omega
    have e : leftV S = S.foldl addV 2147483648 := by unfold leftV; rw [if_neg (fun e => h0 (by rw [e]; rfl))]
    rw [e]
    have HN : Hid (¬ S.length = 0) := h0
    clear e h hI h0
    go_enter Tryd.func24, Tryd.ntmps24
    go_wp2_with fail
    go_loopg [3, 11] (S.length) (fun gh s3 s11 wr => ∃ i : Nat, s3 = .int .u32 ((S.take i).foldl addV 2147483648 : Nat) ∧ s11 = .int .i64 (i : Int) ∧ i ≤ S.length ∧ gh = S.length - i ∧ Q w wr)
    case atStart => exact ⟨0, rfl, rfl, by omega, rfl, Q.refl _⟩
    case round =>
      obtain ⟨i, rfl, rfl, hi, rfl, qr⟩ := hrel
      by_cases hlt : i < S.length
      · have hc := qr.cell (HI.out i hlt)
        have HF : Hid ((S.take (i + 1)).foldl addV 2147483648 = addV ((S.take i).foldl addV 2147483648) (S.getD i 0)) := take_succ_foldl _ _ _ _ hlt
        have HQ : Hid (Q w wr) := qr
        generalize S.getD i 0 = x at hc HF
        generalize (S.take i).foldl addV 2147483648 = A at HF
        clear qr
        go_wp2_with fail
        refine (cadd_any A x _).mono ?_
        rintro e wz ⟨rfl, qz⟩
        go_wp2_with fail
        go_roundg (S.length - (i + 1))
        case measure => go_light; omega
        case rel =>
          go_light
          exact ⟨i + 1, by rw [HF.out]; rfl, by simp, by omega, rfl, HQ.out.trans qz⟩
      · obtain rfl : i = S.length := by omega
        have HQ : Hid (Q w wr) := qr
        clear qr
        go_wp2_with fail
        go_ret
        exact ⟨by simp [List.take_length], HQ.out⟩
/-- By halves, so many times at most. -/
def pairsF : Nat → List Nat → Nat
  | 0, l => if l.length = 0 then 0 else addV 2147483648 (l.getD 0 0)
  | f + 1, l => if l.length = 0 then 0 else if l.length = 1 then addV 2147483648 (l.getD 0 0) else addV (pairsF f (l.take (l.length / 2))) (pairsF f (l.drop (l.length / 2)))
theorem pairsF_more : ∀ (f : Nat) (l : List Nat), l.length ≤ f + 1 → pairsF (f + 1) l = pairsF f l := by
  intro f
  induction f with
  | zero =>
    intro l h
    unfold pairsF
    by_cases h0 : l.length = 0
    · rw [if_pos h0, if_pos h0]
    · rw [if_neg h0, if_neg h0, if_pos (by omega)]
  | succ f ih =>
    intro l h
    show (if l.length = 0 then 0 else if l.length = 1 then addV 2147483648 (l.getD 0 0) else addV (pairsF (f + 1) (l.take (l.length / 2))) (pairsF (f + 1) (l.drop (l.length / 2)))) = (if l.length = 0 then 0 else if l.length = 1 then addV 2147483648 (l.getD 0 0) else addV (pairsF f (l.take (l.length / 2))) (pairsF f (l.drop (l.length / 2))))
    by_cases h0 : l.length = 0
    · rw [if_pos h0, if_pos h0]
    · by_cases h1 : l.length = 1
      · rw [if_neg h0, if_neg h0, if_pos h1, if_pos h1]
      · rw [if_neg h0, if_neg h0, if_neg h1, if_neg h1, ih _ (by rw [List.length_take]; omega), ih _ (by rw [List.length_drop]; omega)]
theorem pairsF_any (l : List Nat) : ∀ (k f : Nat), l.length ≤ f + 1 → pairsF (f + k) l = pairsF f l := by
  intro k
  induction k with
  | zero => exact fun f _ => rfl
  | succ k ih =>
    intro f h
    rw [show f + (k + 1) = (f + k) + 1 by omega, pairsF_more (f + k) l (by omega), ih f h]
def pairsV (l : List Nat) : Nat := pairsF l.length l
theorem pairsV_none {l : List Nat} (h : l.length = 0) : pairsV l = 0 := by
  unfold pairsV
  rw [h]
  show (if l.length = 0 then 0 else _) = 0
  rw [if_pos h]
theorem pairsV_one {l : List Nat} (h : l.length = 1) : pairsV l = addV 2147483648 (l.getD 0 0) := by
  unfold pairsV
  rw [h]
  show (if l.length = 0 then 0 else if l.length = 1 then addV 2147483648 (l.getD 0 0) else _) = _
  rw [if_neg (by omega), if_pos h]
theorem pairsV_many {l : List Nat} (h : 2 ≤ l.length) : pairsV l = addV (pairsV (l.take (l.length / 2))) (pairsV (l.drop (l.length / 2))) := by
  have fit : ∀ m : List Nat, m.length ≤ l.length - 1 → pairsF (l.length - 1) m = pairsV m := fun m hm => by
    unfold pairsV
    have := pairsF_any m (l.length - 1 - m.length) m.length (by omega)
    rw [← this]
    congr 1
    omega
  have e : pairsV l = pairsF (l.length - 1 + 1) l := by unfold pairsV; congr 1; omega
  rw [e]
  show (if l.length = 0 then 0 else if l.length = 1 then addV 2147483648 (l.getD 0 0) else addV (pairsF (l.length - 1) (l.take (l.length / 2))) (pairsF (l.length - 1) (l.drop (l.length / 2)))) = _
  rw [if_neg (by omega), if_neg (by omega), fit _ (by rw [List.length_take]; omega), fit _ (by rw [List.length_drop]; omega)]
theorem UIs.take {w : World} {g o : Nat} {l : List Nat} (h : UIs w g o l) (k : Nat) : UIs w g o (l.take k) := fun i hi => by
  rw [List.length_take] at hi
  have := h i (by omega)
  rw [this]
  congr 3
  rw [List.getD_eq_getElem?_getD, List.getD_eq_getElem?_getD, List.getElem?_take, if_pos (by omega)]
theorem UIs.drop {w : World} {g o : Nat} {l : List Nat} (h : UIs w g o l) (k : Nat) : UIs w g (o + k) (l.drop k) := fun i hi => by
  rw [List.length_drop] at hi
  have := h (k + i) (by omega)
  rw [show o + k + i = o + (k + i) by omega, this]
  congr 3
  rw [List.getD_eq_getElem?_getD, List.getD_eq_getElem?_getD, List.getElem?_drop]
theorem run_slice_to {ρ : Operand → Value} {x : World} {d : Option Tmp} {ty : TypeId} {ps : String} {af : Array Edge} {g : Option (Nat × Bool)} {j k gb ob nn cc kk : Nat} (h : ρ (.tmp j) = .slice (some ⟨gb, ob, none⟩) nn cc) (h' : ρ (.tmp k) = .int .i64 (kk : Nat)) (l1 : kk < nn) (l2 : nn ≤ cc) : (execOp ρ { dst := d, op := .slice 29 (.tmp j) none (some (.tmp k)) none, type := ty, pos := ps, after := af, guard := g }).run Tryd.prog x = .ok (.value (.slice (some ⟨gb, ob, none⟩) kk cc)) x := by
  simp [execOp, h, h', go_sem]
  intro h4
  omega
theorem run_slice_from {ρ : Operand → Value} {x : World} {d : Option Tmp} {ty : TypeId} {ps : String} {af : Array Edge} {g : Option (Nat × Bool)} {j k gb ob nn cc kk : Nat} (h : ρ (.tmp j) = .slice (some ⟨gb, ob, none⟩) nn cc) (h' : ρ (.tmp k) = .int .i64 (kk : Nat)) (l1 : kk < nn) (l2 : nn ≤ cc) : (execOp ρ { dst := d, op := .slice 29 (.tmp j) (some (.tmp k)) none none, type := ty, pos := ps, after := af, guard := g }).run Tryd.prog x = .ok (.value (.slice (some ⟨gb, ob + kk, none⟩) (nn - kk) (cc - kk))) x := by
  simp [execOp, h, h', go_sem]
  rw [if_pos (Nat.le_of_lt l1), if_neg (by omega)]
def oPa_0 : Oper := { dst := some 17, op := .move (.tmp 0), type := 29, pos := "sums.go:62", after := #[], guard := none }
def oPa_1 : Oper := { dst := some 18, op := .move (.tmp 3), type := 3, pos := "sums.go:62", after := #[], guard := none }
def oPa_2 : Oper := { dst := some 19, op := .slice 29 (.tmp 17) none (some (.tmp 18)) none, type := 29, pos := "sums.go:62", after := #[⟨0, .data⟩, ⟨1, .data⟩], guard := none }
def oPa_3 : Oper := { dst := some 20, op := .call { callee := .value (.func 25), args := #[.tmp 19], argTypes := #[29] }, type := 36, pos := "sums.go:62", after := #[⟨2, .data⟩], guard := none }
def oPa_4 : Oper := { dst := some 21, op := .move (.tmp 0), type := 29, pos := "sums.go:62", after := #[], guard := none }
def oPa_5 : Oper := { dst := some 22, op := .move (.tmp 3), type := 3, pos := "sums.go:62", after := #[], guard := none }
def oPa_6 : Oper := { dst := some 23, op := .slice 29 (.tmp 21) (some (.tmp 22)) none none, type := 29, pos := "sums.go:62", after := #[⟨4, .data⟩, ⟨5, .data⟩], guard := none }
def oPa_7 : Oper := { dst := some 24, op := .call { callee := .value (.func 25), args := #[.tmp 23], argTypes := #[29] }, type := 36, pos := "sums.go:62", after := #[⟨6, .data⟩, ⟨3, .chain⟩], guard := none }
def oPa_8 : Oper := { dst := some 25, op := .call { callee := .value (.func 50), args := #[.tmp 20, .tmp 24], argTypes := #[36, 36] }, type := 36, pos := "sums.go:62", after := #[⟨3, .data⟩, ⟨7, .data⟩, ⟨7, .chain⟩], guard := none }
def oPa_9 : Oper := { dst := some 2, op := .assign (.tmp 25), type := 36, pos := "sums.go:62", after := #[⟨8, .data⟩, ⟨8, .chain⟩, ⟨0, .phase⟩, ⟨1, .phase⟩, ⟨2, .phase⟩, ⟨3, .phase⟩, ⟨4, .phase⟩, ⟨5, .phase⟩, ⟨6, .phase⟩, ⟨7, .phase⟩, ⟨8, .phase⟩], guard := none }
def opsPa : List Oper := [oPa_0, oPa_1, oPa_2, oPa_3, oPa_4, oPa_5, oPa_6, oPa_7, oPa_8, oPa_9]
def sPa : List Nat := [17, 18, 19, 20, 21, 22, 23, 24, 25, 2]
def spPa (gb ob nn cc kk A B : Nat) : List Spec := [spV (.slice (some ⟨gb, ob, none⟩) nn cc), spV (.int .i64 (kk : Nat)), spV (.slice (some ⟨gb, ob, none⟩) kk cc), spV (.int .u32 (A : Nat)), spV (.slice (some ⟨gb, ob, none⟩) nn cc), spV (.int .i64 (kk : Nat)), spV (.slice (some ⟨gb, ob + kk, none⟩) (nn - kk) (cc - kk)), spV (.int .u32 (B : Nat)), spV (.int .u32 (addV A B : Nat)), spV (.int .u32 (addV A B : Nat))]
structure EnvPa (a0 : Act) (w : World) (gb ob nn cc kk A B : Nat) : Prop where
  h0 : a0.tmps[0]? = some (.slice (some ⟨gb, ob, none⟩) nn cc)
  h1 : a0.tmps[3]? = some (.int .i64 (kk : Nat))
  l1 : kk < nn
  l2 : nn ≤ cc
  c1 : ∀ x, Q w x → Calls Tryd.prog 25 #[.slice (some ⟨gb, ob, none⟩) kk cc] x fun e x' => e = .returned (.int .u32 (A : Nat)) ∧ Q x x'
  c2 : ∀ x, Q w x → Calls Tryd.prog 25 #[.slice (some ⟨gb, ob + kk, none⟩) (nn - kk) (cc - kk)] x fun e x' => e = .returned (.int .u32 (B : Nat)) ∧ Q x x'
def skPa (i : Nat) : Bool := [].contains i
theorem yPa_0 {a0 : Act} {w : World} {gb ob nn cc kk A B : Nat} (E : EnvPa a0 w gb ob nn cc kk A B) {R : Exit → Act → World → Prop} {a : Act} {x : World} (q : Q w x) (oth : ∀ j, j ∉ sPa → a.tmps[j]? = a0.tmps[j]?) (dep : ∀ ed ∈ oPa_0.after, Region.binds .any ed = true → ∀ t', sPa[ed.on]? = some t' → ∃ v, a.tmps[t']? = some v ∧ specAt (spPa gb ob nn cc kk A B) ed.on v x) : Yld Tryd.prog R oPa_0 a x 17 (specAt (spPa gb ob nn cc kk A B) 0) := by
  exact yld_move ((oth 0 (by decide)).trans E.h0) rfl
theorem yPa_1 {a0 : Act} {w : World} {gb ob nn cc kk A B : Nat} (E : EnvPa a0 w gb ob nn cc kk A B) {R : Exit → Act → World → Prop} {a : Act} {x : World} (q : Q w x) (oth : ∀ j, j ∉ sPa → a.tmps[j]? = a0.tmps[j]?) (dep : ∀ ed ∈ oPa_1.after, Region.binds .any ed = true → ∀ t', sPa[ed.on]? = some t' → ∃ v, a.tmps[t']? = some v ∧ specAt (spPa gb ob nn cc kk A B) ed.on v x) : Yld Tryd.prog R oPa_1 a x 18 (specAt (spPa gb ob nn cc kk A B) 1) := by
  exact yld_move ((oth 3 (by decide)).trans E.h1) rfl
theorem yPa_2 {a0 : Act} {w : World} {gb ob nn cc kk A B : Nat} (E : EnvPa a0 w gb ob nn cc kk A B) {R : Exit → Act → World → Prop} {a : Act} {x : World} (q : Q w x) (oth : ∀ j, j ∉ sPa → a.tmps[j]? = a0.tmps[j]?) (dep : ∀ ed ∈ oPa_2.after, Region.binds .any ed = true → ∀ t', sPa[ed.on]? = some t' → ∃ v, a.tmps[t']? = some v ∧ specAt (spPa gb ob nn cc kk A B) ed.on v x) : Yld Tryd.prog R oPa_2 a x 19 (specAt (spPa gb ob nn cc kk A B) 2) := by
  obtain ⟨v0, t0, f0⟩ := dep ⟨0, .data⟩ (by simp [oPa_2]) rfl 17 rfl
  have f0 : v0 = (.slice (some ⟨gb, ob, none⟩) nn cc) := f0
  subst f0
  obtain ⟨v1, t1, f1⟩ := dep ⟨1, .data⟩ (by simp [oPa_2]) rfl 18 rfl
  have f1 : v1 = (.int .i64 (kk : Nat)) := f1
  subst f1
  exact yld_run (x' := x) rfl (run_slice_to (tmp_eval t0) (tmp_eval t1) E.l1 E.l2) (Q.refl x) rfl
theorem yPa_3 {a0 : Act} {w : World} {gb ob nn cc kk A B : Nat} (E : EnvPa a0 w gb ob nn cc kk A B) {R : Exit → Act → World → Prop} {a : Act} {x : World} (q : Q w x) (oth : ∀ j, j ∉ sPa → a.tmps[j]? = a0.tmps[j]?) (dep : ∀ ed ∈ oPa_3.after, Region.binds .any ed = true → ∀ t', sPa[ed.on]? = some t' → ∃ v, a.tmps[t']? = some v ∧ specAt (spPa gb ob nn cc kk A B) ed.on v x) : Yld Tryd.prog R oPa_3 a x 20 (specAt (spPa gb ob nn cc kk A B) 3) := by
  obtain ⟨v2, t2, f2⟩ := dep ⟨2, .data⟩ (by simp [oPa_3]) rfl 19 rfl
  have f2 : v2 = (.slice (some ⟨gb, ob, none⟩) kk cc) := f2
  subst f2
  refine yld_call (enters_of Tryd.func25 (by kernel_rfl) rfl) (args1 t2) ((E.c1 x q).mono ?_)
  rintro y x' ⟨rfl, q'⟩
  exact ⟨_, rfl, q', rfl⟩
theorem yPa_4 {a0 : Act} {w : World} {gb ob nn cc kk A B : Nat} (E : EnvPa a0 w gb ob nn cc kk A B) {R : Exit → Act → World → Prop} {a : Act} {x : World} (q : Q w x) (oth : ∀ j, j ∉ sPa → a.tmps[j]? = a0.tmps[j]?) (dep : ∀ ed ∈ oPa_4.after, Region.binds .any ed = true → ∀ t', sPa[ed.on]? = some t' → ∃ v, a.tmps[t']? = some v ∧ specAt (spPa gb ob nn cc kk A B) ed.on v x) : Yld Tryd.prog R oPa_4 a x 21 (specAt (spPa gb ob nn cc kk A B) 4) := by
  exact yld_move ((oth 0 (by decide)).trans E.h0) rfl
theorem yPa_5 {a0 : Act} {w : World} {gb ob nn cc kk A B : Nat} (E : EnvPa a0 w gb ob nn cc kk A B) {R : Exit → Act → World → Prop} {a : Act} {x : World} (q : Q w x) (oth : ∀ j, j ∉ sPa → a.tmps[j]? = a0.tmps[j]?) (dep : ∀ ed ∈ oPa_5.after, Region.binds .any ed = true → ∀ t', sPa[ed.on]? = some t' → ∃ v, a.tmps[t']? = some v ∧ specAt (spPa gb ob nn cc kk A B) ed.on v x) : Yld Tryd.prog R oPa_5 a x 22 (specAt (spPa gb ob nn cc kk A B) 5) := by
  exact yld_move ((oth 3 (by decide)).trans E.h1) rfl
theorem yPa_6 {a0 : Act} {w : World} {gb ob nn cc kk A B : Nat} (E : EnvPa a0 w gb ob nn cc kk A B) {R : Exit → Act → World → Prop} {a : Act} {x : World} (q : Q w x) (oth : ∀ j, j ∉ sPa → a.tmps[j]? = a0.tmps[j]?) (dep : ∀ ed ∈ oPa_6.after, Region.binds .any ed = true → ∀ t', sPa[ed.on]? = some t' → ∃ v, a.tmps[t']? = some v ∧ specAt (spPa gb ob nn cc kk A B) ed.on v x) : Yld Tryd.prog R oPa_6 a x 23 (specAt (spPa gb ob nn cc kk A B) 6) := by
  obtain ⟨v4, t4, f4⟩ := dep ⟨4, .data⟩ (by simp [oPa_6]) rfl 21 rfl
  have f4 : v4 = (.slice (some ⟨gb, ob, none⟩) nn cc) := f4
  subst f4
  obtain ⟨v5, t5, f5⟩ := dep ⟨5, .data⟩ (by simp [oPa_6]) rfl 22 rfl
  have f5 : v5 = (.int .i64 (kk : Nat)) := f5
  subst f5
  exact yld_run (x' := x) rfl (run_slice_from (tmp_eval t4) (tmp_eval t5) E.l1 E.l2) (Q.refl x) rfl
theorem yPa_7 {a0 : Act} {w : World} {gb ob nn cc kk A B : Nat} (E : EnvPa a0 w gb ob nn cc kk A B) {R : Exit → Act → World → Prop} {a : Act} {x : World} (q : Q w x) (oth : ∀ j, j ∉ sPa → a.tmps[j]? = a0.tmps[j]?) (dep : ∀ ed ∈ oPa_7.after, Region.binds .any ed = true → ∀ t', sPa[ed.on]? = some t' → ∃ v, a.tmps[t']? = some v ∧ specAt (spPa gb ob nn cc kk A B) ed.on v x) : Yld Tryd.prog R oPa_7 a x 24 (specAt (spPa gb ob nn cc kk A B) 7) := by
  obtain ⟨v6, t6, f6⟩ := dep ⟨6, .data⟩ (by simp [oPa_7]) rfl 23 rfl
  have f6 : v6 = (.slice (some ⟨gb, ob + kk, none⟩) (nn - kk) (cc - kk)) := f6
  subst f6
  refine yld_call (enters_of Tryd.func25 (by kernel_rfl) rfl) (args1 t6) ((E.c2 x q).mono ?_)
  rintro y x' ⟨rfl, q'⟩
  exact ⟨_, rfl, q', rfl⟩
theorem yPa_8 {a0 : Act} {w : World} {gb ob nn cc kk A B : Nat} (E : EnvPa a0 w gb ob nn cc kk A B) {R : Exit → Act → World → Prop} {a : Act} {x : World} (q : Q w x) (oth : ∀ j, j ∉ sPa → a.tmps[j]? = a0.tmps[j]?) (dep : ∀ ed ∈ oPa_8.after, Region.binds .any ed = true → ∀ t', sPa[ed.on]? = some t' → ∃ v, a.tmps[t']? = some v ∧ specAt (spPa gb ob nn cc kk A B) ed.on v x) : Yld Tryd.prog R oPa_8 a x 25 (specAt (spPa gb ob nn cc kk A B) 8) := by
  obtain ⟨v3, t3, f3⟩ := dep ⟨3, .data⟩ (by simp [oPa_8]) rfl 20 rfl
  have f3 : v3 = (.int .u32 (A : Nat)) := f3
  subst f3
  obtain ⟨v7, t7, f7⟩ := dep ⟨7, .data⟩ (by simp [oPa_8]) rfl 24 rfl
  have f7 : v7 = (.int .u32 (B : Nat)) := f7
  subst f7
  refine yld_call (enters_of Tryd.func50 (by kernel_rfl) rfl) (args2 t3 t7) ((cadd_any A B x).mono ?_)
  rintro y x' ⟨rfl, q'⟩
  exact ⟨_, rfl, q', rfl⟩
theorem yPa_9 {a0 : Act} {w : World} {gb ob nn cc kk A B : Nat} (E : EnvPa a0 w gb ob nn cc kk A B) {R : Exit → Act → World → Prop} {a : Act} {x : World} (q : Q w x) (oth : ∀ j, j ∉ sPa → a.tmps[j]? = a0.tmps[j]?) (dep : ∀ ed ∈ oPa_9.after, Region.binds .any ed = true → ∀ t', sPa[ed.on]? = some t' → ∃ v, a.tmps[t']? = some v ∧ specAt (spPa gb ob nn cc kk A B) ed.on v x) : Yld Tryd.prog R oPa_9 a x 2 (specAt (spPa gb ob nn cc kk A B) 9) := by
  obtain ⟨v8, t8, f8⟩ := dep ⟨8, .data⟩ (by simp [oPa_9]) rfl 25 rfl
  have f8 : v8 = (.int .u32 (addV A B : Nat)) := f8
  subst f8
  exact yld_run (x' := x) rfl (by rw [← tmp_eval t8]; rfl) (Q.refl x) rfl
theorem hopPa {a0 : Act} {w : World} {gb ob nn cc kk A B : Nat} (E : EnvPa a0 w gb ob nn cc kk A B) {R : Exit → Act → World → Prop} : ∀ (i t : Nat) (o : Oper) (a : Act) (x : World), skPa i = false → sPa[i]? = some t → opsPa[i]? = some o → Q w x → (∀ j, j ∉ sPa → a.tmps[j]? = a0.tmps[j]?) → (∀ ed ∈ o.after, Region.binds .any ed = true → ∀ t', sPa[ed.on]? = some t' → ∃ v, a.tmps[t']? = some v ∧ specAt (spPa gb ob nn cc kk A B) ed.on v x) → Yld Tryd.prog R o a x t (specAt (spPa gb ob nn cc kk A B) i)
  | 0, t, o, a, x, hi, ht, ho, q, oth, dep => by
    have e1 : oPa_0 = o := Option.some.inj ho
    have e2 : 17 = t := Option.some.inj ht
    subst e1 e2
    exact yPa_0 E q oth dep
  | 1, t, o, a, x, hi, ht, ho, q, oth, dep => by
    have e1 : oPa_1 = o := Option.some.inj ho
    have e2 : 18 = t := Option.some.inj ht
    subst e1 e2
    exact yPa_1 E q oth dep
  | 2, t, o, a, x, hi, ht, ho, q, oth, dep => by
    have e1 : oPa_2 = o := Option.some.inj ho
    have e2 : 19 = t := Option.some.inj ht
    subst e1 e2
    exact yPa_2 E q oth dep
  | 3, t, o, a, x, hi, ht, ho, q, oth, dep => by
    have e1 : oPa_3 = o := Option.some.inj ho
    have e2 : 20 = t := Option.some.inj ht
    subst e1 e2
    exact yPa_3 E q oth dep
  | 4, t, o, a, x, hi, ht, ho, q, oth, dep => by
    have e1 : oPa_4 = o := Option.some.inj ho
    have e2 : 21 = t := Option.some.inj ht
    subst e1 e2
    exact yPa_4 E q oth dep
  | 5, t, o, a, x, hi, ht, ho, q, oth, dep => by
    have e1 : oPa_5 = o := Option.some.inj ho
    have e2 : 22 = t := Option.some.inj ht
    subst e1 e2
    exact yPa_5 E q oth dep
  | 6, t, o, a, x, hi, ht, ho, q, oth, dep => by
    have e1 : oPa_6 = o := Option.some.inj ho
    have e2 : 23 = t := Option.some.inj ht
    subst e1 e2
    exact yPa_6 E q oth dep
  | 7, t, o, a, x, hi, ht, ho, q, oth, dep => by
    have e1 : oPa_7 = o := Option.some.inj ho
    have e2 : 24 = t := Option.some.inj ht
    subst e1 e2
    exact yPa_7 E q oth dep
  | 8, t, o, a, x, hi, ht, ho, q, oth, dep => by
    have e1 : oPa_8 = o := Option.some.inj ho
    have e2 : 25 = t := Option.some.inj ht
    subst e1 e2
    exact yPa_8 E q oth dep
  | 9, t, o, a, x, hi, ht, ho, q, oth, dep => by
    have e1 : oPa_9 = o := Option.some.inj ho
    have e2 : 2 = t := Option.some.inj ht
    subst e1 e2
    exact yPa_9 E q oth dep
  | i + 10, t, o, a, x, hi, ht, ho, q, oth, dep => by cases ho
theorem keyPa : ∀ i, i < 10 → ((opsPa[i]?).bind (fun o : Oper => o.guard) = none ∧ skPa i = false) := by decide +kernel
theorem hguPa {gb ob nn cc kk A B : Nat} : ∀ (i : Nat) (o : Oper) (g : Nat) (b : Bool), opsPa[i]? = some o → o.guard = some (g, b) → ∀ v x, specAt (spPa gb ob nn cc kk A B) g v x → (v = .bool b ↔ skPa i = false) := by
  intro i o g b ho hg v x hf
  have h := keyPa i (List.getElem?_eq_some_iff.1 ho).1
  rw [ho] at h
  simp only [Option.bind_some] at h
  rw [hg] at h
  rcases h with ⟨h, _⟩
  · cases h
theorem hgnPa : ∀ (i : Nat) (o : Oper), opsPa[i]? = some o → o.guard = none → skPa i = false := by
  intro i o ho hg
  have h := keyPa i (List.getElem?_eq_some_iff.1 ho).1
  rw [ho] at h
  simp only [Option.bind_some] at h
  rw [hg] at h
  rcases h with ⟨_, h⟩
  · exact h
theorem hskPa {gb ob nn cc kk A B : Nat} : ∀ (i : Nat) (x : World), skPa i = true → specAt (spPa gb ob nn cc kk A B) i undef x := by
  intro i x h
  cases h
theorem regionPa {id : Nat} {l : List Oper} {R : Exit → Act → World → Prop} {a0 : Act} {w : World} {gb ob nn cc kk A B : Nat} (hl : l = opsPa) (hsz : a0.tmps.size = 26) (E : EnvPa a0 w gb ob nn cc kk A B)
    (hR : ∀ a x, Q w x → a.defers = a0.defers → a.tmps[2]? = some (.int .u32 (addV A B : Nat)) → R .normal a x) :
    (Code.region id l.toArray true).wp Tryd.prog R a0 w := by
  subst hl
  refine wp_region_factsS sPa (specAt (spPa gb ob nn cc kk A B)) skPa (by kernel_rfl) (by decide +kernel) (by decide) (fun t ht => ?_) specAt.next hguPa hgnPa hskPa (hopPa E) (fun a x q size defers other facts => ?_)
  · rw [hsz]
    revert t
    decide
  · obtain ⟨v, tl, fl⟩ := facts 9 2 rfl
    have fl : v = .int .u32 (addV A B : Nat) := fl
    subst fl
    exact ⟨hR a x q defers tl⟩
set_option maxHeartbeats 2000000 in
theorem pairs_any : ∀ (n : Nat) (v : Value) (S : List Nat) (w : World), S.length ≤ n → USl w v S → S.length ≤ 35184372087808 → Calls Tryd.prog 25 #[v] w fun e w' => e = .returned (.int .u32 (pairsV S : Nat)) ∧ Q w w' := by
  intro n
  induction n with
  | zero =>
    intro v S w hl h hn
    obtain ⟨ad, cap, rfl⟩ := h.form
    have h0 : S.length = 0 := by omega
    rw [h0, pairsV_none h0]
    clear h
    go_enter Tryd.func25, Tryd.ntmps25
    go_wp2_with fail
    go_ret
    exact ⟨rfl, Q.refl _⟩
  | succ n ih =>
    intro v S w hl h hn
    obtain ⟨ad, cap, rfl⟩ := h.form
    by_cases h0 : S.length = 0
    · rw [h0, pairsV_none h0]
      clear h ih
      go_enter Tryd.func25, Tryd.ntmps25
      go_wp2_with fail
      go_ret
      exact ⟨rfl, Q.refl _⟩
    · obtain ⟨g, o, cap', he, hcap, hI⟩ := h.some (by omega)
      injection he with he1 he2 he3
      subst he1 he3
      clear he2
      by_cases h1 : S.length = 1
      · have c0 := hI 0 (by omega)
        rw [Nat.add_zero] at c0
        rw [h1, pairsV_one h1]
        generalize S.getD 0 0 = x at c0
        clear h ih hI
        go_enter Tryd.func25, Tryd.ntmps25
        go_wp2_with fail
        refine (cadd_any 2147483648 x _).mono ?_
        rintro e wz ⟨rfl, qz⟩
        go_wp2_with fail
        go_ret
        exact ⟨rfl, qz⟩
      · have hne0 : ((S.length : Int) == 0) = false := by rw [beq_eq_false_iff_ne]; omega
        have hne1 : ((S.length : Int) == 1) = false := by rw [beq_eq_false_iff_ne]; omega
        obtain ⟨k, hk⟩ : ∃ k, k = S.length / 2 := ⟨_, rfl⟩
        rw [pairsV_many (by omega), ← hk]
        have hk1 : 1 ≤ k := by omega
        have hk2 : k < S.length := by omega
        have hd : (S.length : Int) / 2 = (k : Int) := by omega
        have c1 := fun w' (q : Q w w') => ih (.slice (some ⟨g, o, none⟩) k cap) (S.take k) w' (by rw [List.length_take]; omega) (by
          have := ((hI.next q).take k).usl (cap := cap) (by rw [List.length_take]; omega)
          rw [List.length_take, Nat.min_eq_left (by omega)] at this
          exact this) (by rw [List.length_take]; omega)
        have c2 := fun w' (q : Q w w') => ih (.slice (some ⟨g, o + k, none⟩) (S.length - k) (cap - k)) (S.drop k) w' (by rw [List.length_drop]; omega) (by
          have := ((hI.next q).drop k).usl (cap := cap - k) (by rw [List.length_drop]; omega)
          rw [List.length_drop] at this
          exact this) (by rw [List.length_drop]; omega)
        generalize pairsV (S.take k) = A at c1
        generalize pairsV (S.drop k) = B at c2
        have C1 : Hid _ := c1
        have C2 : Hid _ := c2
        clear c1 c2 ih h hI hk
        go_enter Tryd.func25, Tryd.ntmps25
        go_wp2_with fail
        refine regionPa rfl rfl ⟨rfl, rfl, by omega, hcap, C1.out, C2.out⟩ ?_
        intro a9 x9 q9 df t4
        have HQ9 : Hid (Q w x9) := q9
        clear q9
        go_wp2_with fail
        obtain ⟨tm, dd⟩ := a9
        have df : dd = [] := df
        subst df
        have t4 : tm[2]? = some (.int .u32 (addV A B : Nat)) := t4
        go_ret
        have t4' : tm.getD 2 undef = .int .u32 (addV A B : Nat) := by rw [Array.getD_eq_getD_getElem?, t4]; rfl
        exact ⟨congrArg Ending.returned t4', HQ9.out⟩
/-- With what was lost carried along. -/
def kahS (p : Nat × Nat) (s : Nat) : Nat × Nat := (addV p.1 (subV s p.2), subV (subV (addV p.1 (subV s p.2)) p.1) (subV s p.2))
def kahV (l : List Nat) : Nat := if l = [] then 0 else ((l.drop 1).foldl kahS (addV 2147483648 (l.getD 0 0), 0)).1
theorem csubV (a b : Nat) (w : World) : Calls Tryd.prog 51 #[.int .u32 (a : Int), .int .u32 (b : Int)] w fun e w' => e = .returned (.int .u32 (subV a b : Nat)) ∧ Q w w' := csub_any a b w
theorem caddV (a b : Nat) (w : World) : Calls Tryd.prog 50 #[.int .u32 (a : Int), .int .u32 (b : Int)] w fun e w' => e = .returned (.int .u32 (addV a b : Nat)) ∧ Q w w' := cadd_any a b w
set_option maxHeartbeats 2000000 in
theorem kahan_any (v : Value) (S : List Nat) (w : World) (h : USl w v S) (hn : S.length ≤ 35184372087808) : Calls Tryd.prog 27 #[v] w fun e w' => e = .returned (.int .u32 (kahV S : Nat)) ∧ Q w w' := by
  obtain ⟨ad, cap, rfl⟩ := h.form
  by_cases h0 : S.length = 0
  · have hS : S = [] := List.eq_nil_of_length_eq_zero h0
    rw [h0]
    have e : kahV S = 0 := by rw [hS]; rfl
    rw [e]
    clear e hS h
    go_enter Tryd.func27, Tryd.ntmps27
    go_wp2_with fail
    go_ret
    exact ⟨rfl, Q.refl _⟩
  · obtain ⟨g, o, cap', he, hcap, hI⟩ := h.some (by omega)
    injection he with he1 he2 he3
    subst he1 he3
    clear he2
    have hne : ((S.length : Int) == 0) = false := by rw [beq_eq_false_iff_ne]; omega
    have e : kahV S = ((S.drop 1).foldl kahS (addV 2147483648 (S.getD 0 0), 0)).1 := by unfold kahV; rw [if_neg (fun e => h0 (by rw [e]; rfl))]
    rw [e]
    have c0 := hI 0 (by omega)
    rw [Nat.add_zero] at c0
    have HI : Hid (UIs w g (o + 1) (S.drop 1)) := hI.drop 1
    have hl : (S.drop 1).length = S.length - 1 := List.length_drop
    have hpos : 1 ≤ S.length := by omega
    generalize S.getD 0 0 = x0 at c0
    have HL : Hid ((S.drop 1).length = S.length - 1) := hl
    generalize S.drop 1 = D at HI HL
    clear e h hI h0 hl
    go_enter Tryd.func27, Tryd.ntmps27
    go_wp2_with fail
    refine (caddV 2147483648 x0 _).mono ?_
    rintro e w1 ⟨rfl, q1⟩
    have HQ1 : Hid (Q w w1) := q1
    clear q1 c0
    go_wp2_with fail
    case inl =>
      have hs1 : S.length = 1 := by omega
      go_loopg [3, 4, 19] (D.length) (fun gh s3 s4 s19 wr => ∃ i : Nat, s3 = .int .u32 (((D.take i).foldl kahS (addV 2147483648 x0, 0)).1 : Nat) ∧ s4 = .int .u32 (((D.take i).foldl kahS (addV 2147483648 x0, 0)).2 : Nat) ∧ s19 = .int .i64 (i : Int) ∧ i ≤ D.length ∧ gh = D.length - i ∧ Q w wr)
      case atStart => exact ⟨0, rfl, rfl, rfl, by omega, rfl, HQ1.out⟩
      case round =>
        obtain ⟨i, rfl, rfl, rfl, hi, rfl, qr⟩ := hrel
        by_cases hlt : i < D.length
        · exfalso
          have hlD := HL.out
          omega
        · obtain rfl : i = D.length := by omega
          have HQ : Hid (Q w wr) := qr
          have hnl : ¬ ((D.length : Int) < ((S.length - 1 : Nat) : Int)) := by have hlD := HL.out; omega
          simp only [List.take_length]
          clear qr
          go_wp2_with fail
          go_ret
          exact ⟨rfl, HQ.out⟩
    case inr =>
      go_loopg [3, 4, 19] (D.length) (fun gh s3 s4 s19 wr => ∃ i : Nat, s3 = .int .u32 (((D.take i).foldl kahS (addV 2147483648 x0, 0)).1 : Nat) ∧ s4 = .int .u32 (((D.take i).foldl kahS (addV 2147483648 x0, 0)).2 : Nat) ∧ s19 = .int .i64 (i : Int) ∧ i ≤ D.length ∧ gh = D.length - i ∧ Q w wr)
      case atStart => exact ⟨0, rfl, rfl, rfl, by omega, rfl, HQ1.out⟩
      case round =>
        obtain ⟨i, rfl, rfl, rfl, hi, rfl, qr⟩ := hrel
        by_cases hlt : i < D.length
        · have hc := qr.cell (HI.out i hlt)
          have HF : Hid ((D.take (i + 1)).foldl kahS (addV 2147483648 x0, 0) = kahS ((D.take i).foldl kahS (addV 2147483648 x0, 0)) (D.getD i 0)) := take_succ_foldl _ _ _ _ hlt
          have HQ : Hid (Q w wr) := qr
          generalize D.getD i 0 = y at hc HF
          generalize (D.take i).foldl kahS (addV 2147483648 x0, 0) = P at HF
          obtain ⟨A, C⟩ := P
          have hlt' : (i : Int) < ((S.length - 1 : Nat) : Int) := by have hlD := HL.out; omega
          clear qr
          go_wp2_with fail
          refine (csubV y C _).mono ?_
          rintro e w2 ⟨rfl, q2⟩
          go_wp2_with fail
          refine (caddV A (subV y C) _).mono ?_
          rintro e w3 ⟨rfl, q3⟩
          go_wp2_with fail
          refine (csubV (addV A (subV y C)) A _).mono ?_
          rintro e w4 ⟨rfl, q4⟩
          go_wp2_with fail
          refine (csubV (subV (addV A (subV y C)) A) (subV y C) _).mono ?_
          rintro e w5 ⟨rfl, q5⟩
          go_wp2_with fail
          go_roundg (D.length - (i + 1))
          case measure => go_light; omega
          case rel =>
            go_light
            exact ⟨i + 1, by rw [HF.out]; rfl, by rw [HF.out]; rfl, by simp, by omega, rfl, (((HQ.out.trans q2).trans q3).trans q4).trans q5⟩
        · obtain rfl : i = D.length := by omega
          have HQ : Hid (Q w wr) := qr
          have hnl : ¬ ((D.length : Int) < ((S.length - 1 : Nat) : Int)) := by have hlD := HL.out; omega
          simp only [List.take_length]
          clear qr
          go_wp2_with fail
          go_ret
          exact ⟨rfl, HQ.out⟩
end Go.Proofs.YtmgpaheobhfioaaDoor
/- Words of binary64: what is told, of NaNs one. -/
namespace Go.Proofs.YtmgpaheobhfioaaDoor
open Go.RowKit

/-- What is told of a datum in binary64. -/
def told64 : Option Ieee.Datum → Nat
  | none => 9221120237041090560
  | some (.nan ..) => 9221120237041090560
  | some d => Ieee.double.write d
/-- A word of binary64, of NaNs one. -/
def canW (W : Nat) : Nat := if nan64 W = true then 9221120237041090560 else W
def add64V (a b : Nat) : Nat := told64 ((Ieee.double.read a).sum (Ieee.double.read b))
theorem sum64_nan {d : Ieee.Datum} (h : d.isNaN = true) (d' : Ieee.Datum) : told64 (d.sum d') = 9221120237041090560 := by
  obtain ⟨s, t, rfl⟩ := isNaN_cases h
  cases d' <;> rfl
theorem made64 : nan64 9221120237041090560 = true := by decide
theorem can_sum (W X : Nat) : add64V (canW W) X = add64V W X := by
  unfold canW
  cases h : nan64 W
  · rfl
  · rw [if_pos rfl]
    unfold add64V
    rw [sum64_nan (read64_nan h), sum64_nan (read64_nan made64)]
theorem told64_some {d : Ieee.Datum} (h : d.isNaN = false) : told64 (some d) = Ieee.double.write d := by
  cases d with
  | nan s t => cases h
  | infinity s => rfl
  | number s m p => rfl
theorem can_some {d : Ieee.Datum} (h : d.isNaN = false) : canW (Ieee.double.write d) = told64 (some d) := by
  unfold canW
  rw [nan64_write h, if_neg (by decide), told64_some h]
theorem can_none (x y : Nat) (w : World) : canW (nanw .f64 x y w) = 9221120237041090560 := by
  unfold canW
  rw [(nanw64 x y w).1, if_pos rfl]
end Go.Proofs.YtmgpaheobhfioaaDoor
/- Sums in binary64, one behind the other: what the program tells. -/
namespace Go.Proofs.YtmgpaheobhfioaaDoor
open Go.RowKit
set_option linter.unusedVariables false
set_option linter.unusedSimpArgs false

set_option maxHeartbeats 400000 in
theorem swide_any (a : Nat) (ha : a < 4294967296) (w : World) : Calls Tryd.prog 53 #[.int .u32 (a : Int)] w fun e w' => e = .returned (.float .f64 (wideW a)) ∧ Q w w' := by
  have l1 := f64from
  go_enter Tryd.func53, Tryd.ntmps53
  go_wp2_with fail
  refine (cwide_any a ha _).mono ?_
  rintro e w1 ⟨rfl, q1⟩
  go_wp2_with fail
  go_ret
  exact ⟨by simp, q1⟩
set_option maxHeartbeats 400000 in
theorem widebits_any (W : Nat) (hW : W < 18446744073709551616) (w : World) : Calls Tryd.prog 54 #[.float .f64 W] w fun e w' => e = .returned (.int .u64 (canW W : Nat)) ∧ w' = w := by
  have l1 := f64bits
  have k := fun w => isnan64_any W w
  unfold canW
  cases h : nan64 W
  · rw [h] at k
    clear h
    go_enter Tryd.func54, Tryd.ntmps54
    go_wp2_with fail
    refine (k _).mono ?_
    rintro e w1 ⟨rfl, rfl⟩
    go_wp2_with fail
    go_ret
    exact ⟨rfl, rfl⟩
  · rw [h] at k
    clear h
    go_enter Tryd.func54, Tryd.ntmps54
    go_wp2_with fail
    refine (k _).mono ?_
    rintro e w1 ⟨rfl, rfl⟩
    go_wp2_with fail
    go_ret
    exact ⟨rfl, rfl⟩
set_option maxHeartbeats 400000 in
theorem copysign_any (w : World) : Calls Tryd.prog 52 #[.float .f64 0, .float .f64 13830554455654793216] w fun e w' => e = .returned (.float .f64 9223372036854775808) ∧ w' = w := by
  have l1 : ∀ w, (callFunc 67 #[.float .f64 0]).run Tryd.prog w = .ok (.value (.int .u64 0)) w := fun w => f64bits 0 w
  have l2 : ∀ w, (callFunc 67 #[.float .f64 13830554455654793216]).run Tryd.prog w = .ok (.value (.int .u64 13830554455654793216)) w := fun w => f64bits 13830554455654793216 w
  have l3 : ∀ w, (callFunc 66 #[.int .u64 9223372036854775808]).run Tryd.prog w = .ok (.value (.float .f64 9223372036854775808)) w := fun w => f64from 9223372036854775808 w
  have e1 : bits .andNot .u64 0 9223372036854775808 = 0 := by decide +kernel
  have e2 : bits .and .u64 13830554455654793216 9223372036854775808 = 9223372036854775808 := by decide +kernel
  have e3 : bits .or .u64 0 9223372036854775808 = 9223372036854775808 := by decide +kernel
  go_enter Tryd.func52, Tryd.ntmps52
  go_wp2_with fail
  go_ret
  exact ⟨rfl, rfl⟩
def left64V (l : List Nat) : Nat := if l = [] then 0 else l.foldl (fun z s => add64V z (wideW s)) 9223372036854775808
set_option maxHeartbeats 2000000 in
theorem left64_any (v : Value) (S : List Nat) (w : World) (h : USl w v S) (hn : S.length ≤ 35184372087808) (hb : ∀ i, S.getD i 0 < 4294967296) : Calls Tryd.prog 28 #[v] w fun e w' => e = .returned (.int .u64 (left64V S : Nat)) ∧ Q w w' := by
  obtain ⟨ad, cap, rfl⟩ := h.form
  by_cases h0 : S.length = 0
  · have hS : S = [] := List.eq_nil_of_length_eq_zero h0
    rw [h0]
    have e : left64V S = 0 := by rw [hS]; rfl
    rw [e]
    clear e hS h hb
    go_enter Tryd.func28, Tryd.ntmps28
    go_wp2_with fail
    go_ret
    exact ⟨rfl, Q.refl _⟩
  · obtain ⟨g, o, cap', he, hcap, hI⟩ := h.some (by omega)
    injection he with he1 he2 he3
    subst he1 he3
    clear he2
    have HI : Hid (UIs w g o S) := hI
    have hne : ((S.length : Int) == 0) = false := by rw [beq_eq_false_iff_ne]; omega
    have e : left64V S = S.foldl (fun z s => add64V z (wideW s)) 9223372036854775808 := by unfold left64V; rw [if_neg (fun e => h0 (by rw [e]; rfl))]
    rw [e]
    have HN : Hid (¬ S.length = 0) := h0
    have HB : Hid (∀ i, S.getD i 0 < 4294967296) := hb
    clear e h hI h0 hb
    go_enter Tryd.func28, Tryd.ntmps28
    go_wp2_with fail
    refine (copysign_any _).mono ?_
    rintro e w0 ⟨rfl, rfl⟩
    go_wp2_with fail
    go_loopg [3, 12] (S.length) (fun gh s3 s12 wr => ∃ i W : Nat, s3 = .float .f64 W ∧ Hid (canW W = (S.take i).foldl (fun z s => add64V z (wideW s)) 9223372036854775808) ∧ W < 18446744073709551616 ∧ s12 = .int .i64 (i : Int) ∧ i ≤ S.length ∧ gh = S.length - i ∧ Q w0 wr)
    case atStart => exact ⟨0, 9223372036854775808, rfl, (show canW 9223372036854775808 = 9223372036854775808 by decide +kernel), by decide, rfl, by omega, rfl, Q.refl _⟩
    case round =>
      obtain ⟨i, W, rfl, HW, hW, rfl, hi, rfl, qr⟩ := hrel
      by_cases hlt : i < S.length
      · have hc := qr.cell (HI.out i hlt)
        have HF : Hid ((S.take (i + 1)).foldl (fun z s => add64V z (wideW s)) 9223372036854775808 = add64V ((S.take i).foldl (fun z s => add64V z (wideW s)) 9223372036854775808) (wideW (S.getD i 0))) := take_succ_foldl _ _ _ _ hlt
        have HQ : Hid (Q w0 wr) := qr
        have hx := HB.out i
        generalize S.getD i 0 = x at hc HF hx
        have HC : Hid (∀ W', canW W' = add64V W (wideW x) → canW W' = (S.take (i + 1)).foldl (fun z s => add64V z (wideW s)) 9223372036854775808) := fun W' h => by rw [HF.out, ← HW.out, can_sum]; exact h
        clear qr HF HW
        cases hd : (Ieee.double.read W).sum (Ieee.double.read (wideW x)) with
        | none =>
          have hf : floatBits .add .f64 W (wideW x) = none := by
            show ((Ieee.double.read W).sum (Ieee.double.read (wideW x))).map Ieee.double.write = none
            rw [hd]; rfl
          have l1 := fun w => run_arith_none .add (by simp) 86 .f64 W (wideW x) hf Tryd.prog w
          have HE : Hid (add64V W (wideW x) = 9221120237041090560) := by show add64V W (wideW x) = _; unfold add64V; rw [hd]; rfl
          clear hd hf
          go_wp2_with fail
          refine (swide_any x hx _).mono ?_
          rintro e w2 ⟨rfl, q2⟩
          go_wp2_with fail
          go_roundg (S.length - (i + 1))
          case measure => go_light; omega
          case rel =>
            go_light
            exact ⟨i + 1, _, rfl, HC.out _ (by rw [HE.out]; exact can_none _ _ _), (nanw64 _ _ _).2, by simp, by omega, rfl, (HQ.out.trans q2).drew⟩
        | some d =>
          have hf : floatBits .add .f64 W (wideW x) = some (Ieee.double.write d) := by
            show ((Ieee.double.read W).sum (Ieee.double.read (wideW x))).map Ieee.double.write = _
            rw [hd]; rfl
          have l1 := fun w => run_float_arith (P := Tryd.prog) w .add 86 .f64 W (wideW x) _ hf
          have HE : Hid (add64V W (wideW x) = told64 (some d)) := by show add64V W (wideW x) = _; unfold add64V; rw [hd]
          have HD : Hid (d.isNaN = false) := sum_num hd
          clear hd hf
          go_wp2_with fail
          refine (swide_any x hx _).mono ?_
          rintro e w2 ⟨rfl, q2⟩
          go_wp2_with fail
          go_roundg (S.length - (i + 1))
          case measure => go_light; omega
          case rel =>
            go_light
            exact ⟨i + 1, _, rfl, HC.out _ (by rw [HE.out]; exact can_some HD.out), write64_lt d, by simp, by omega, rfl, HQ.out.trans q2⟩
      · obtain rfl : i = S.length := by omega
        have HQ : Hid (Q w0 wr) := qr
        have HW' : Hid (canW W = S.foldl (fun z s => add64V z (wideW s)) 9223372036854775808) := by have h := HW.out; rw [List.take_length] at h; exact h
        clear qr HW
        go_wp2_with fail
        refine (widebits_any W hW _).mono ?_
        rintro e w3 ⟨rfl, rfl⟩
        rw [HW'.out]
        go_wp2_with fail
        go_ret
        exact ⟨rfl, HQ.out⟩
end Go.Proofs.YtmgpaheobhfioaaDoor
/- sums' narrow. -/
namespace Go.Proofs.YtmgpaheobhfioaaDoor
open Go.RowKit
set_option linter.unusedVariables false
set_option linter.unusedSimpArgs false

set_option maxHeartbeats 400000 in
theorem snarrow_any (W : Nat) (w : World) : Calls Tryd.prog 56 #[.float .f64 W] w fun e w' => e = .returned (.int .u32 (toldD (some (Ieee.double.read W)) : Nat)) ∧ Q w w' := by
  have l1 := f64bits
  go_enter Tryd.func56, Tryd.ntmps56
  go_wp2_with fail
  refine (cnarrow_any W _).mono ?_
  rintro e w1 ⟨rfl, q1⟩
  go_wp2_with fail
  go_ret
  exact ⟨rfl, q1⟩
end Go.Proofs.YtmgpaheobhfioaaDoor
/- An exact sum divided, as a sample. -/
namespace Go.Proofs.YtmgpaheobhfioaaDoor
open Go.RowKit
set_option linter.unusedVariables false
set_option linter.unusedSimpArgs false

theorem odd_wd (s : Bool) {V d : Nat} (hV : 0 < V) (hd : 0 < d) (hb : blen V ≤ 320) : ∃ (m : Nat) (p : Int) (L : Nat), oddW s V d = wd s m p ∧ m = topV V d * 2 ^ L ∧ p + (L : Int) = ((blen (V / d) - 53 : Nat) : Int) - 151 ∧ 4503599627370496 ≤ m ∧ m < 9007199254740992 ∧ -1074 ≤ p ∧ p ≤ 971 := by
  have h1 : topV V d < 2 ^ 53 := top_lt rfl
  have h0 : 0 < topV V d := top_pos hV hd rfl
  have hbl : blen (V / d) ≤ 320 := by
    refine Nat.le_trans (blen_le (k := blen V) ?_) hb
    exact Nat.lt_of_le_of_lt (Nat.div_le_self _ _) (blen_lt V)
  unfold oddW
  generalize topV V d = t at *
  obtain ⟨b, hb'⟩ : ∃ b, blen (V / d) - 53 = b := ⟨_, rfl⟩
  rw [hb']
  have hb2 : b ≤ 267 := by omega
  have hne : t ≠ 0 := by omega
  have a0 := Nat.log2_self_le hne
  have a1 : t < 2 ^ (t.log2 + 1) := Nat.lt_log2_self
  have aL : t.log2 ≤ 52 := by
    have := (Nat.log2_lt hne).2 h1
    omega
  generalize t.log2 = L at *
  have := nearest_exact (neg := s) (k := 0) (p := (b : Int) - 151) a0 a1 aL (by omega) (by omega)
  rw [Nat.pow_zero, Nat.mul_one] at this
  refine ⟨t * 2 ^ (52 - L), (b : Int) - 151 + ((0 : Nat) : Int) + L - 52, 52 - L, this, rfl, by omega, ?_, ?_, by omega, by omega⟩
  · have := Nat.mul_le_mul_right (2 ^ (52 - L)) a0
    rw [← Nat.pow_add, show L + (52 - L) = 52 by omega] at this
    exact this
  · have := Nat.mul_lt_mul_of_pos_right a1 (Nat.two_pow_pos (52 - L))
    rw [← Nat.pow_add, show L + 1 + (52 - L) = 53 by omega] at this
    exact this
theorem told_odd (s : Bool) {V d : Nat} (hV : 0 < V) (hd : 0 < d) (hb : blen V ≤ 320) : toldD (some (Ieee.double.read (oddW s V d))) = Ieee.single.word s (exR V d) := by
  obtain ⟨m, p, L, e1, e2, e3, h0, h1, p0, p1⟩ := odd_wd s hV hd hb
  rw [e1, read_wd h0 h1 p0 p1, toldD_num, e2, rung_scale, e3]
  congr 1
  exact ex_top rfl
theorem xor_top {n : Nat} (h : n < 9223372036854775808) : n ^^^ 9223372036854775808 = 9223372036854775808 + n := by
  have e1 : (n ^^^ 9223372036854775808) / 2 ^ 63 = n / 2 ^ 63 ^^^ 1 := by rw [Nat.xor_div_two_pow]
  have e2 : (n ^^^ 9223372036854775808) % 2 ^ 63 = n % 2 ^ 63 := by rw [Nat.xor_mod_two_pow]; simp
  have e3 := Nat.div_add_mod (n ^^^ 9223372036854775808) (2 ^ 63)
  rw [e1, e2] at e3
  have e4 : n / 2 ^ 63 = 0 := by omega
  rw [e4] at e3
  have e5 : (0 ^^^ 1 : Nat) = 1 := rfl
  rw [e5] at e3
  omega
theorem top_bit : 2 ^ (FloatKind.f64.format.exponentBits + FloatKind.f64.format.fractionBits) = 9223372036854775808 := by decide
theorem word_f (r : Nat) : Ieee.double.word false r = r := rfl
theorem word_t (r : Nat) : Ieee.double.word true r = Ieee.double.signWeight + r := rfl
theorem neg_top (r : Nat) (h : r < 9223372036854775808) : Op.negFloat .f64 r = 9223372036854775808 + r := by
  unfold Op.negFloat
  rw [top_bit]
  exact xor_top h
theorem odd_neg (V d : Nat) : Op.negFloat .f64 (oddW false V d) = oddW true V d := by
  unfold oddW
  rw [nearest_rung, nearest_rung, word_f, word_t, double_sign]
  have hl := rungOf_le Ieee.double (topV V d) (((blen (V / d) - 53 : Nat) : Int) - 151)
  rw [double_inf] at hl
  exact neg_top _ (by omega)
set_option maxHeartbeats 2000000 in
set_option maxRecDepth 100000 in
theorem divided_any (N : Nat → Nat) (z : Int) (hR : Rep N z) (h0 : z ≠ 0) (hz : 2 * z.natAbs < m64 ^ 5) (d : Nat) (hd : 0 < d) (hd' : d < 4294967296) (w : World) (hT : Tab w) : Calls Tryd.prog 83 #[numV N, .int .u64 (d : Int)] w fun e w' => e = .returned (.float .f64 (oddW (decide (z < 0)) z.natAbs d)) ∧ Q w w' := by
  have HN : Hid (∀ i, N i < m64) := hR.lt
  have HT : Hid (Tab w) := hT
  by_cases hn : z < 0
  · have h1 := hR.neg hn (by generalize m64 ^ 5 = G at *; omega)
    have e1 : decide (9223372036854775808 ≤ N 4) = true := decide_eq_true h1.2
    have HV : Hid (valW (negW N) 5 = z.natAbs) := by
      show valW (negW N) 5 = z.natAbs
      have := h1.1; omega
    have hV : Hid (0 < valW (negW N) 5) := by
      show 0 < valW (negW N) 5
      rw [HV.out]; omega
    have HW : Hid (oddW (decide (z < 0)) z.natAbs d = Op.negFloat .f64 (oddW false (valW (negW N) 5) d)) := by
      show oddW (decide (z < 0)) z.natAbs d = _
      rw [odd_neg, HV.out, decide_eq_true hn]
    have l1 : ∀ w : World, (Op.unary UnOp.neg (.float .f64 (oddW false (valW (negW N) 5) d))).run Tryd.prog w = .ok (.float .f64 (Op.negFloat .f64 (oddW false (valW (negW N) 5) d))) w := fun _ => rfl
    clear h1 hR hT hz h0 hn
    unfold numV
    go_enter Tryd.func83, Tryd.ntmps83
    go_wp2_with fail
    refine (negative_any N HN.out _).mono ?_
    rintro e w1 ⟨rfl, q1⟩
    rw [e1]
    have c0 := q1.cell (box_words w N 0 (by decide))
    have c1 := q1.cell (box_words w N 1 (by decide))
    have c2 := q1.cell (box_words w N 2 (by decide))
    have c3 := q1.cell (box_words w N 3 (by decide))
    have c4 := q1.cell (box_words w N 4 (by decide))
    have HQ1 : Hid (Q w w1) := ((Q.refl w).cells _ _).trans q1
    clear q1
    go_wp2_with fail
    refine (negated_any N HN.out _).mono ?_
    rintro e w2 ⟨rfl, q2⟩
    have HQ2 : Hid (Q w w2) := HQ1.out.trans q2
    clear q2 c0 c1 c2 c3 c4
    go_wp2_with fail
    refine (size_any (negW N) (neg_lt N) d hd hd' hV.out _ (HQ2.out.tab HT.out)).mono ?_
    rintro e w3 ⟨rfl, q3⟩
    have HQ3 : Hid (Q w w3) := HQ2.out.trans q3
    clear q3
    go_wp2_with fail
    go_ret
    exact ⟨by rw [HW.out]; rfl, HQ3.out⟩
  · have h1 := hR.pos (by omega) (by generalize m64 ^ 5 = G at *; omega)
    have e1 : decide (9223372036854775808 ≤ N 4) = false := decide_eq_false h1.2
    have HV : Hid (valW N 5 = z.natAbs) := by
      show valW N 5 = z.natAbs
      have := h1.1; omega
    have hV : Hid (0 < valW N 5) := by
      show 0 < valW N 5
      rw [HV.out]; omega
    rw [decide_eq_false hn]
    clear h1 hR hT hz h0 hn
    unfold numV
    go_enter Tryd.func83, Tryd.ntmps83
    go_wp2_with fail
    refine (negative_any N HN.out _).mono ?_
    rintro e w1 ⟨rfl, q1⟩
    rw [e1]
    have c0 := q1.cell (box_words w N 0 (by decide))
    have c1 := q1.cell (box_words w N 1 (by decide))
    have c2 := q1.cell (box_words w N 2 (by decide))
    have c3 := q1.cell (box_words w N 3 (by decide))
    have c4 := q1.cell (box_words w N 4 (by decide))
    have HQ1 : Hid (Q w w1) := ((Q.refl w).cells _ _).trans q1
    clear q1
    go_wp2_with fail
    refine (size_any N HN.out d hd hd' hV.out _ (HQ1.out.tab HT.out)).mono ?_
    rintro e w2 ⟨rfl, q2⟩
    have HQ2 : Hid (Q w w2) := HQ1.out.trans q2
    clear q2 c0 c1 c2 c3 c4
    go_wp2_with fail
    go_ret
    exact ⟨by rw [← HV.out]; rfl, HQ2.out⟩
end Go.Proofs.YtmgpaheobhfioaaDoor
/- Regions that draw their order, whose last operation waits for all others: one walk in the order of the text, and then the last operation. -/
namespace Go.Proofs.YtmgpaheobhfioaaDoor
open Go.RowKit
set_option linter.unusedVariables false

theorem push_getD_lt (l : Array Bool) (d : Bool) {i : Nat} (h : i < l.size) : (l.push false).getD i d = l.getD i d := by
  rw [Array.getD_eq_getD_getElem?, Array.getD_eq_getD_getElem?, Array.getElem?_push_lt h, Array.getElem?_eq_getElem h]
theorem push_getD_eq (l : Array Bool) (d : Bool) : (l.push false).getD l.size d = false := by
  rw [Array.getD_eq_getD_getElem?, Array.getElem?_push_size]; rfl
theorem ops_lt {pre : List Oper} {st : Oper} {i : Nat} (h : i < pre.length) : (pre ++ [st]).toArray[i]? = pre.toArray[i]? := by
  simp [List.getElem?_append_left h]
theorem push_set (l : Array Bool) {i : Nat} (h : i < l.size) : (l.push false).setIfInBounds i true = (l.setIfInBounds i true).push false := by
  apply Array.ext_getElem?
  intro j
  rw [Array.getElem?_setIfInBounds, Array.getElem?_push, Array.getElem?_push, Array.getElem?_setIfInBounds]
  simp only [Array.size_push, Array.size_setIfInBounds]
  by_cases e : i = j
  · subst e
    have h3 : ¬ i = l.size := by omega
    have h4 : i < l.size + 1 := by omega
    simp [h, h3, h4]
  · simp [e]
theorem wpAny_done {P : Program} {ops : Array Oper} {Q' : Exit → Act → World → Prop} {listed : Array Bool} (hr : Region.ready .any ops listed = []) {a : Act} {w : World} (h : Q' .normal a w) : ∀ f, wpAny P .any ops Q' f listed a w
  | 0 => ⟨hr, h⟩
  | f + 1 => ⟨fun _ => h, fun i hi => by rw [hr] at hi; cases hi⟩
end Go.Proofs.YtmgpaheobhfioaaDoor
