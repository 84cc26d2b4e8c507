/- The document's exact sums: one sample more. -/
import Derived.Test.YtmgpaheobhfioaaDoorG53243a32
import Derived.Test.YtmgpaheobhfioaaDoorGb5d5ad33
import Derived.Test.YtmgpaheobhfioaaDoorG6dc8acda
import Derived.Test.YtmgpaheobhfioaaDoorGc6c2317b
namespace Go.Proofs.YtmgpaheobhfioaaDoor
open Go.RowKit
set_option linter.unusedVariables false
set_option linter.unusedSimpArgs false

def fl6 (m : Nat) : Bool := decide (16 ≤ m)
def fl7 (m : Nat) : Bool := decide (m / 4 % 2 = 1)
def fl8 (m : Nat) : Bool := decide (m / 8 % 2 = 1)
def fl9 (m : Nat) : Bool := decide (2 ≤ m)
theorem fl_upd : ∀ m, m < 32 → ∀ k ∈ [1, 2, 4, 8, 16], fl6 (m ||| k) = (fl6 m || decide (k = 16)) ∧ fl7 (m ||| k) = (fl7 m || decide (k = 4)) ∧ fl8 (m ||| k) = (fl8 m || decide (k = 8)) ∧ fl9 (m ||| k) = (fl9 m || decide (k ≠ 1)) := by decide +kernel
/-- The document's sum of a list, in its block: all but the number itself. -/
structure SFl (w : World) (B : Nat) (l : List Nat) (k : Int) (s : Bool) (p : Option Addr) (L C : Nat) (e : Int) (m : Bool) : Prop where
  b : Box5 w B k s p L C e m
  n : w.cell? ⟨B, 5, none⟩ = some (.int .i64 (l.length : Nat))
  c6 : w.cell? ⟨B, 6, none⟩ = some (.bool (fl6 (metV l)))
  c7 : w.cell? ⟨B, 7, none⟩ = some (.bool (fl7 (metV l)))
  c8 : w.cell? ⟨B, 8, none⟩ = some (.bool (fl8 (metV l)))
  c9 : w.cell? ⟨B, 9, none⟩ = some (.bool (fl9 (metV l)))
  z : ∀ j, w.frozen? ⟨B, j, none⟩ = false
  h : B < w.heap.size
theorem SFl.next {w w' : World} {B : Nat} {l : List Nat} {k : Int} {s : Bool} {p : Option Addr} {L C : Nat} {e : Int} {m : Bool} (h : SFl w B l k s p L C e m) (q : Q w w') : SFl w' B l k s p L C e m :=
  ⟨h.b.next q, q.cell h.n, q.cell h.c6, q.cell h.c7, q.cell h.c8, q.cell h.c9, fun j => by rw [q.2]; exact h.z j, Nat.lt_of_lt_of_le h.h q.1.size⟩
/-- The number of a sum. -/
def SNm (w : World) (l : List Nat) (k : Int) (s : Bool) (p : Option Addr) (L C : Nat) (e : Int) (m : Bool) : Prop := ∃ n, NumAt w (num5 k s p L C e m) (.fin s n e false) ∧ Val s n e (sumZ l)
theorem SNm.next {w w' : World} {l : List Nat} {k : Int} {s : Bool} {p : Option Addr} {L C : Nat} {e : Int} {m : Bool} (h : SNm w l k s p L C e m) (q : Q w w') : SNm w' l k s p L C e m := by
  obtain ⟨n, h1, h2⟩ := h
  exact ⟨n, q.num h1, h2⟩
def SAt (w : World) (B : Nat) (l : List Nat) : Prop := ∃ k s p L C e m, SFl w B l k s p L C e m ∧ (l ≠ [] → SNm w l k s p L C e m)
theorem SAt.next {w w' : World} {B : Nat} {l : List Nat} (h : SAt w B l) (q : Q w w') : SAt w' B l := by
  obtain ⟨k, s, p, L, C, e, m, h1, h2⟩ := h
  exact ⟨k, s, p, L, C, e, m, h1.next q, fun g => (h2 g).next q⟩
/-- Five cells written, behind the number. -/
def putS (y : World) (B : Nat) (n : Int) (x6 x7 x8 x9 : Bool) : World := ((((y.setCell ⟨B, 5, none⟩ (.int .i64 n)).setCell ⟨B, 6, none⟩ (.bool x6)).setCell ⟨B, 7, none⟩ (.bool x7)).setCell ⟨B, 8, none⟩ (.bool x8)).setCell ⟨B, 9, none⟩ (.bool x9)
theorem putS_far {y : World} {B : Nat} {n : Int} {x6 x7 x8 x9 : Bool} {q : Addr} (h : q.block ≠ B ∨ q.off < 5) : (putS y B n x6 x7 x8 x9).cell? q = y.cell? q := by
  unfold putS
  have hn : ∀ j, 5 ≤ j → (⟨B, j, none⟩ : Addr) ≠ q := fun j hj e => by
    subst e
    rcases h with h | h
    · exact h rfl
    · have : j < 5 := h
      omega
  rw [World.cell?_setCell_other _ _ _ _ (hn _ (by decide)), World.cell?_setCell_other _ _ _ _ (hn _ (by decide)), World.cell?_setCell_other _ _ _ _ (hn _ (by decide)), World.cell?_setCell_other _ _ _ _ (hn _ (by decide)), World.cell?_setCell_other _ _ _ _ (hn _ (by decide))]
theorem putS_fb {y : World} {B : Nat} {n : Int} {x6 x7 x8 x9 : Bool} : Fb B y (putS y B n x6 x7 x8 x9) := (((((Fb.refl B y).set rfl _).set rfl _).set rfl _).set rfl _).set rfl _
theorem SFl.put {y : World} {B : Nat} {l l' : List Nat} {k : Int} {s : Bool} {p : Option Addr} {L C : Nat} {e : Int} {m : Bool} (h : SFl y B l k s p L C e m) {n : Int} {x6 x7 x8 x9 : Bool} (hn : n = (l'.length : Nat)) (h6 : x6 = fl6 (metV l')) (h7 : x7 = fl7 (metV l')) (h8 : x8 = fl8 (metV l')) (h9 : x9 = fl9 (metV l')) : SFl (putS y B n x6 x7 x8 x9) B l' k s p L C e m := by
  have d5 := h.n
  have d6 := h.c6
  have d7 := h.c7
  have d8 := h.c8
  have d9 := h.c9
  subst hn h6 h7 h8 h9
  refine ⟨⟨?_, ?_, ?_, ?_, ?_⟩, ?_, ?_, ?_, ?_, ?_, fun j => ?_, ?_⟩
  · rw [putS_far (Or.inr (by simp))]; exact h.b.c0
  · rw [putS_far (Or.inr (by simp))]; exact h.b.c1
  · rw [putS_far (Or.inr (by simp))]; exact h.b.c2
  · rw [putS_far (Or.inr (by simp))]; exact h.b.c3
  · rw [putS_far (Or.inr (by simp))]; exact h.b.c4
  · unfold putS; simp [go_sem, d5, d6, d7, d8, d9]
  · unfold putS; simp [go_sem, d5, d6, d7, d8, d9]
  · unfold putS; simp [go_sem, d5, d6, d7, d8, d9]
  · unfold putS; simp [go_sem, d5, d6, d7, d8, d9]
  · unfold putS; simp [go_sem, d5, d6, d7, d8, d9]
  · rw [putS_fb.frz]; exact h.z j
  · exact Nat.lt_of_lt_of_le h.h putS_fb.size
theorem SNm.put {y : World} {B : Nat} {l : List Nat} {k : Int} {s : Bool} {p : Option Addr} {L C : Nat} {e : Int} {m : Bool} (h : SNm y l k s p L C e m) (hb : y.cell? ⟨B, 0, none⟩ = some (.int .i64 k)) {l' : List Nat} (hl : sumZ l' = sumZ l) {n : Int} {x6 x7 x8 x9 : Bool} : SNm (putS y B n x6 x7 x8 x9) l' k s p L C e m := by
  obtain ⟨n, h1, h2⟩ := h
  exact ⟨n, numAt_but h1 hb (fun a ha => putS_far (Or.inl ha)), by rw [hl]; exact h2⟩
/-- A number written over the sum's. -/
def put0 (y : World) (B : Nat) (k : Int) (s : Bool) (p : Option Addr) (L C : Nat) (e : Int) (m : Bool) : World := ((((y.setCell ⟨B, 0, none⟩ (.int .i64 k)).setCell ⟨B, 1, none⟩ (.bool s)).setCell ⟨B, 2, none⟩ (.slice p L C)).setCell ⟨B, 3, none⟩ (.int .i64 e)).setCell ⟨B, 4, none⟩ (.bool m)
theorem put0_far {y : World} {B : Nat} {k : Int} {s : Bool} {p : Option Addr} {L C : Nat} {e : Int} {m : Bool} {q : Addr} (h : q.block ≠ B ∨ 5 ≤ q.off) : (put0 y B k s p L C e m).cell? q = y.cell? q := by
  unfold put0
  have hn : ∀ j, j < 5 → (⟨B, j, none⟩ : Addr) ≠ q := fun j hj e => by
    subst e
    rcases h with h | h
    · exact h rfl
    · have : 5 ≤ j := h
      omega
  rw [World.cell?_setCell_other _ _ _ _ (hn _ (by decide)), World.cell?_setCell_other _ _ _ _ (hn _ (by decide)), World.cell?_setCell_other _ _ _ _ (hn _ (by decide)), World.cell?_setCell_other _ _ _ _ (hn _ (by decide)), World.cell?_setCell_other _ _ _ _ (hn _ (by decide))]
theorem put0_fb {y : World} {B : Nat} {k : Int} {s : Bool} {p : Option Addr} {L C : Nat} {e : Int} {m : Bool} : Fb B y (put0 y B k s p L C e m) := (((((Fb.refl B y).set rfl _).set rfl _).set rfl _).set rfl _).set rfl _
theorem put0_box {y : World} {B : Nat} {k : Int} {s : Bool} {p : Option Addr} {L C : Nat} {e : Int} {m : Bool} {k0 : Int} {s0 : Bool} {p0 : Option Addr} {L0 C0 : Nat} {e0 : Int} {m0 : Bool} (h : Box5 y B k0 s0 p0 L0 C0 e0 m0) : Box5 (put0 y B k s p L C e m) B k s p L C e m := by
  obtain ⟨c0, c1, c2, c3, c4⟩ := h
  unfold put0
  exact ⟨by simp [go_sem, c0, c1, c2, c3, c4], by simp [go_sem, c0, c1, c2, c3, c4], by simp [go_sem, c0, c1, c2, c3, c4], by simp [go_sem, c0, c1, c2, c3, c4], by simp [go_sem, c0, c1, c2, c3, c4]⟩
theorem SFl.over {y : World} {B : Nat} {l : List Nat} {k0 : Int} {s0 : Bool} {p0 : Option Addr} {L0 C0 : Nat} {e0 : Int} {m0 : Bool} (h : SFl y B l k0 s0 p0 L0 C0 e0 m0) (k : Int) (s : Bool) (p : Option Addr) (L C : Nat) (e : Int) (m : Bool) : SFl (put0 y B k s p L C e m) B l k s p L C e m :=
  ⟨put0_box h.b, by rw [put0_far (Or.inr (by simp))]; exact h.n, by rw [put0_far (Or.inr (by simp))]; exact h.c6, by rw [put0_far (Or.inr (by simp))]; exact h.c7, by rw [put0_far (Or.inr (by simp))]; exact h.c8, by rw [put0_far (Or.inr (by simp))]; exact h.c9, fun j => by rw [put0_fb.frz]; exact h.z j, Nat.lt_of_lt_of_le h.h put0_fb.size⟩
theorem SNm.over {y : World} {B : Nat} {l : List Nat} {k0 : Int} {s0 : Bool} {p0 : Option Addr} {L0 C0 : Nat} {e0 : Int} {m0 : Bool} (hb : Box5 y B k0 s0 p0 L0 C0 e0 m0) {k : Int} {s : Bool} {p : Option Addr} {L C : Nat} {e : Int} {m : Bool} (h : SNm y l k s p L C e m) : SNm (put0 y B k s p L C e m) l k s p L C e m := by
  obtain ⟨n, h1, h2⟩ := h
  exact ⟨n, numAt_but h1 hb.c0 (fun a ha => put0_far (Or.inl ha)), h2⟩
theorem num_start (w : World) : NumAt w (num5 2 false none 0 0 0 false) (.fin false 0 0 false) := ⟨_, rfl, nat_nil w⟩
theorem zero_q (v : Value) (x : RNum) (w : World) (h : NumAt w v x) : Calls Tryd.prog 18 #[v] w fun e w' => e = .returned (.bool (zeroB x)) ∧ Q w w' := by
  refine (zero_any v x w h).mono ?_
  rintro e x' ⟨rfl, c, rfl⟩
  exact ⟨rfl, (Q.refl w).cells _ _⟩
theorem SAt.over {y : World} {B : Nat} {l : List Nat} {k0 : Int} {s0 : Bool} {p0 : Option Addr} {L0 C0 : Nat} {e0 : Int} {m0 : Bool} (h : SFl y B l k0 s0 p0 L0 C0 e0 m0) {k : Int} {s : Bool} {p : Option Addr} {L C : Nat} {e : Int} {m : Bool} {u : Bool} {kk : Nat} {bb : Int} (hn : NumAt y (num5 k s p L C e m) (.fin u kk bb false)) (hv : Val u kk bb (sumZ l)) : SAt (put0 y B k s p L C e m) B l := by
  have hx := hn
  obtain ⟨nv, he, hnat⟩ := hx
  unfold num5 at he
  simp at he
  obtain ⟨rfl, rfl, rfl, rfl, rfl⟩ := he
  exact ⟨_, _, _, _, _, _, _, h.over _ _ _ _ _ _ _, fun _ => SNm.over h.b ⟨kk, hn, hv⟩⟩
end Go.Proofs.YtmgpaheobhfioaaDoor
/- Regions that draw their order, whose last operation waits, at last, for all others (by way of some that it waits for). -/
namespace Go.Proofs.YtmgpaheobhfioaaDoor
open Go.RowKit
set_option linter.unusedVariables false

def lastR (pre : List Oper) (st : Oper) : Bool :=
  ((List.range pre.length).all fun k => match pre[k]? with
    | some o => o.guard.isNone && o.after.toList.all fun e => !(Region.binds .any e) || decide (e.on < k)
    | none => true) &&
  ((st.guard.isNone && st.after.toList.all fun e => !(Region.binds .any e) || decide (e.on < pre.length)) && (List.range pre.length).all fun k => (reach pre 3 ((st.after.toList.filter (Region.binds .any)).map (·.on))).contains k)
theorem lastR_pre {pre : List Oper} {st : Oper} (h : lastR pre st = true) {k : Nat} {o : Oper} (hk : pre[k]? = some o) : o.guard = none ∧ ∀ e ∈ o.after, Region.binds .any e = true → e.on < k := by
  unfold lastR at h
  rw [Bool.and_eq_true] at h
  have hlt : k < pre.length := (List.getElem?_eq_some_iff.1 hk).1
  have h1 := List.all_eq_true.1 h.1 k (List.mem_range.2 hlt)
  rw [hk] at h1
  simp only [Bool.and_eq_true] at h1
  refine ⟨by simpa using h1.1, fun e he hb => ?_⟩
  have h2 := List.all_eq_true.1 h1.2 e (by simpa using he)
  rw [hb] at h2
  simpa using h2
theorem lastR_st {pre : List Oper} {st : Oper} (h : lastR pre st = true) : st.guard = none ∧ (∀ k, k < pre.length → k ∈ reach pre 3 ((st.after.toList.filter (Region.binds .any)).map (·.on))) ∧ ∀ e ∈ st.after, Region.binds .any e = true → e.on < pre.length := by
  unfold lastR at h
  simp only [Bool.and_eq_true] at h
  refine ⟨by simpa using h.2.1.1, fun k hk => ?_, fun e he hb => ?_⟩
  · have h1 := List.all_eq_true.1 h.2.2 k (List.mem_range.2 hk)
    simpa using h1
  · have h2 := List.all_eq_true.1 h.2.1.2 e (by simpa using he)
    rw [hb] at h2
    simpa using h2
theorem ready_ltR {pre : List Oper} {st : Oper} (hB : lastR pre st = true) {listed : Array Bool} (hs : listed.size = pre.length) (hc : ∀ (j : Nat) (o : Oper), listed.getD j false = true → pre[j]? = some o → ∀ e ∈ o.after, Region.binds .any e = true → listed.getD e.on false = true) {i : Nat} (hi : i ∈ Region.ready .any (pre ++ [st]).toArray (listed.push false)) :
    (i < pre.length ∧ i ∈ Region.ready .any pre.toArray listed) ∨ (i = pre.length ∧ ∀ k, k < pre.length → listed.getD k false = true) := by
  obtain ⟨h1, o, ho, h2⟩ := mem_ready.1 hi
  rcases Nat.lt_trichotomy i pre.length with h | h | h
  · left
    refine ⟨h, mem_ready.2 ⟨?_, o, ?_, fun e he hb => ?_⟩⟩
    · rw [← push_getD_lt listed true (by omega)]; exact h1
    · rw [← ops_lt (st := st) h]; exact ho
    · have hk : pre[i]? = some o := by rw [ops_lt h] at ho; simpa using ho
      have := (lastR_pre hB hk).2 e he hb
      rw [← push_getD_lt listed false (by omega)]
      exact h2 e he hb
  · right
    refine ⟨h, fun k hk => ?_⟩
    have hst : o = st := by
      rw [h] at ho
      simp at ho
      exact ho.symm
    subst hst
    obtain ⟨g1, g2, g3⟩ := lastR_st hB
    refine deps_got hc (fun e he hb => ?_) k (g2 k hk)
    have := g3 e he hb
    rw [← push_getD_lt listed false (by omega)]
    exact h2 e he hb
  · exfalso
    rw [List.getElem?_toArray, List.getElem?_eq_none (by simp; omega)] at ho
    cases ho
theorem ready_backR {pre : List Oper} {st : Oper} (hB : lastR pre st = true) {listed : Array Bool} (hs : listed.size = pre.length) {i : Nat} (hi : i ∈ Region.ready .any pre.toArray listed) : i ∈ Region.ready .any (pre ++ [st]).toArray (listed.push false) := by
  obtain ⟨h1, o, ho, h2⟩ := mem_ready.1 hi
  have h : i < pre.length := by
    have := (List.getElem?_eq_some_iff.1 (show pre[i]? = some o by simpa using ho)).1
    exact this
  refine mem_ready.2 ⟨?_, o, ?_, fun e he hb => ?_⟩
  · rw [push_getD_lt listed true (by omega)]; exact h1
  · rw [ops_lt h]; exact ho
  · have hk : pre[i]? = some o := by simpa using ho
    have := (lastR_pre hB hk).2 e he hb
    rw [push_getD_lt listed false (by omega)]
    exact h2 e he hb
theorem ready_nilR {pre : List Oper} {st : Oper} (hB : lastR pre st = true) {listed : Array Bool} (hs : listed.size = pre.length) (hr : Region.ready .any pre.toArray listed = []) : ∀ k, k < pre.length → listed.getD k false = true := by
  intro k
  induction k using Nat.strongRecOn with
  | ind k ih =>
    intro hk
    have hk' : k < listed.size := by omega
    cases hl : listed.getD k false with
    | true => rfl
    | false =>
      exfalso
      obtain ⟨o, ho⟩ : ∃ o, pre[k]? = some o := ⟨_, List.getElem?_eq_getElem hk⟩
      have : k ∈ Region.ready .any pre.toArray listed := by
        refine mem_ready.2 ⟨?_, o, by simpa using ho, fun e he hb => ?_⟩
        · rw [Array.getD_eq_getD_getElem?, Array.getElem?_eq_getElem hk'] at hl ⊢; exact hl
        · have := (lastR_pre hB ho).2 e he hb
          exact ih e.on this (by omega)
      rw [hr] at this
      cases this
theorem wpAny_lastR {P : Program} {pre : List Oper} {st : Oper} {C : World → Prop} {Q : Act → Prop} {Q' : Exit → Act → World → Prop} (hB : lastR pre st = true)
    (hQ : ∀ a w, C w → Q a → st.wp P a w (fun a' w' => Q' .normal a' w') Q') : ∀ (fuel : Nat) (listed : Array Bool) (a : Act) (w : World), listed.size = pre.length → (∀ (j : Nat) (o : Oper), listed.getD j false = true → pre[j]? = some o → ∀ e ∈ o.after, Region.binds .any e = true → listed.getD e.on false = true) → C w →
    wpAnyQ P .any pre.toArray C Q fuel listed a → wpAny P .any (pre ++ [st]).toArray Q' (fuel + 1) (listed.push false) a w := by
  have done : ∀ (fuel : Nat) (listed : Array Bool) (a : Act) (w : World), listed.size = pre.length → (∀ (j : Nat) (o : Oper), listed.getD j false = true → pre[j]? = some o → ∀ e ∈ o.after, Region.binds .any e = true → listed.getD e.on false = true) → C w → (∀ k, k < pre.length → listed.getD k false = true) → Q a → wpAny P .any (pre ++ [st]).toArray Q' (fuel + 1) (listed.push false) a w := by
    intro fuel listed a w hs hc hC hall hq
    obtain ⟨g1, g2, g3⟩ := lastR_st hB
    have hrn : pre.length ∈ Region.ready .any (pre ++ [st]).toArray (listed.push false) := by
      refine mem_ready.2 ⟨?_, st, by simp, fun e he hb => ?_⟩
      · rw [← hs]; exact push_getD_eq _ _
      · have := g3 e he hb
        rw [push_getD_lt listed false (by omega)]
        exact hall _ this
    refine ⟨fun hr => (by rw [hr] at hrn; cases hrn), fun i hi => ?_⟩
    have hin : i = pre.length := by
      rcases ready_ltR hB hs hc hi with ⟨h1, h2⟩ | ⟨h1, _⟩
      · exfalso
        obtain ⟨h3, _⟩ := mem_ready.1 h2
        have h4 := hall i h1
        rw [Array.getD_eq_getD_getElem?, Array.getElem?_eq_getElem (by omega)] at h3 h4
        simp at h3 h4
        rw [h4] at h3
        cases h3
      · exact h1
    subst hin
    unfold wpOp
    have hget : (pre ++ [st]).toArray[pre.length]? = some st := by simp
    rw [hget]
    simp only
    rw [if_pos (by unfold Region.wanted; rw [g1])]
    refine Or.inl (Oper.wp_mono (fun a' w' h => ?_) (hQ a w hC hq))
    refine wpAny_done ?_ h fuel
    cases hrr : Region.ready .any (pre ++ [st]).toArray ((listed.push false).setIfInBounds pre.length true) with
    | nil => rfl
    | cons j js =>
      exfalso
      have hj : j ∈ Region.ready .any (pre ++ [st]).toArray ((listed.push false).setIfInBounds pre.length true) := by rw [hrr]; exact List.mem_cons_self
      obtain ⟨h3, o, ho, _⟩ := mem_ready.1 hj
      have hj2 : j < (pre ++ [st]).length := by
        have := (List.getElem?_eq_some_iff.1 (show (pre ++ [st])[j]? = some o by simpa using ho)).1
        exact this
      rw [List.length_append, List.length_singleton] at hj2
      rw [Array.getD_eq_getD_getElem?, Array.getElem?_setIfInBounds] at h3
      by_cases e : pre.length = j
      · rw [if_pos e, if_pos (by rw [Array.size_push]; omega)] at h3
        cases h3
      · rw [if_neg e, Array.getElem?_push_lt (by omega)] at h3
        have h4 := hall j (by omega)
        rw [Array.getD_eq_getD_getElem?, Array.getElem?_eq_getElem (by omega)] at h4
        simp at h3 h4
        rw [h4] at h3
        cases h3
  intro fuel
  induction fuel with
  | zero =>
    intro listed a w hs hc hC h
    exact done 0 listed a w hs hc hC (ready_nilR hB hs h.1) h.2
  | succ fuel ih =>
    intro listed a w hs hc hC h
    cases hr : Region.ready .any pre.toArray listed with
    | nil => exact done (fuel + 1) listed a w hs hc hC (ready_nilR hB hs hr) (h.1 hr)
    | cons j js =>
      have hj : j ∈ Region.ready .any pre.toArray listed := by rw [hr]; exact List.mem_cons_self
      refine ⟨fun hn => (by have := ready_backR (st := st) hB hs hj; rw [hn] at this; cases this), fun i hi => ?_⟩
      rcases ready_ltR hB hs hc hi with ⟨h1, h2⟩ | ⟨_, h2⟩
      · have hq := h.2 i h2
        obtain ⟨o, ho⟩ : ∃ o, pre[i]? = some o := ⟨_, List.getElem?_eq_getElem h1⟩
        have hg := (lastR_pre hB ho).1
        unfold qOp at hq
        unfold wpOp
        rw [ops_lt h1]
        rw [show pre.toArray[i]? = some o by simpa using ho] at hq ⊢
        simp only at hq ⊢
        have hwt : ∀ y, Region.wanted o y = true := fun y => by unfold Region.wanted; rw [hg]
        rw [if_pos (hwt _)] at hq ⊢
        refine Or.inl (Oper.wp_of_quiet hC (fun a' w' hC' hk => ?_) hq)
        rw [push_set listed (by omega)]
        have hd : ∀ e ∈ o.after, Region.binds .any e = true → listed.getD e.on false = true := by
          obtain ⟨_, o2, ho2, hd⟩ := mem_ready.1 h2
          have e2 : o = o2 := by
            rw [show pre.toArray[i]? = some o by simpa using ho] at ho2
            injection ho2
          rw [e2]
          exact hd
        exact ih (listed.setIfInBounds i true) a' w' (by simpa using hs) (closed_set ho hc hd) hC' hk
      · exfalso
        obtain ⟨h3, o, ho, _⟩ := mem_ready.1 hj
        have hj2 : j < pre.length := (List.getElem?_eq_some_iff.1 (show pre[j]? = some o by simpa using ho)).1
        have h4 := h2 j hj2
        rw [Array.getD_eq_getD_getElem?, Array.getElem?_eq_getElem (by omega)] at h3 h4
        simp at h3 h4
        rw [h4] at h3
        cases h3
/-- The region's wp: the walk of all operations but the last, each quiet in the worlds that differ by new blocks; then the last one. -/
theorem wp_region_lastR {P : Program} {id : Nat} {R : Exit → Act → World → Prop} {a : Act} {w : World} {l : List Oper} (pre : List Oper) (st : Oper) (hl : l = pre ++ [st]) (hm : P.follows .mixedOrders = true) (hB : Region.lexB .any pre.toArray = true) (hL : lastR pre st = true)
    (h : wpQuiet P pre.toArray (fun w' => ∃ n : QW w, w' = n.x) (fun a' => ∀ (n : QW w) (K : Act → World → Prop), (∀ a'' w'', R .normal a'' w'' → K a'' w'') → st.wp P a' n.x K R) pre a) : (Code.region id l.toArray true).wp P R a w := by
  subst hl
  refine wp_region_any hm ?_
  have hq := wpAnyQ_lex (C := fun w' => ∃ n : QW w, w' = n.x) (md := .any) (by simp only [Region.lexB, Bool.and_eq_true] at hB; exact hB.1) pre 0 (Array.replicate pre.length false) a (by simp) (by simp only [Region.lexB, Bool.and_eq_true] at hB; simpa using hB.2) h
  have := wpAny_lastR (Q' := R) hL (fun a' w' hC hq => by obtain ⟨n, rfl⟩ := hC; exact hq n _ (fun _ _ h => h)) pre.length (Array.replicate pre.length false) a w.drew (by simp) (fun j o hj => by rw [Array.getD_eq_getD_getElem?, Array.getElem?_replicate] at hj; split at hj <;> cases hj) ⟨⟨w.drew, (Q.refl w).drew⟩, rfl⟩ hq
  have e : (Array.replicate pre.length false).push false = Array.replicate (pre ++ [st]).toArray.size false := by
    rw [show (pre ++ [st]).toArray.size = pre.length + 1 by simp, Array.replicate_succ]
  rw [e] at this
  simpa using this
theorem wp_lastR {P : Program} {id : Nat} {R : Exit → Act → World → Prop} {a : Act} {w : World} {l : List Oper} (n : Nat) (hn : l.length = n + 1) (st : Oper) (hst : l[n]? = some st) (hm : P.follows .mixedOrders = true) (hB : Region.lexB .any (l.take n).toArray = true) (hL : lastR (l.take n) st = true)
    (h : wpQuiet P (l.take n).toArray (fun w' => ∃ n : QW w, w' = n.x) (fun a' => ∀ (n : QW w) (K : Act → World → Prop), (∀ a'' w'', R .normal a'' w'' → K a'' w'') → st.wp P a' n.x K R) (l.take n) a) : (Code.region id l.toArray true).wp P R a w := by
  refine wp_region_lastR (l.take n) st ?_ hm hB hL h
  have h1 : n < l.length := by omega
  have h2 : l[n] = st := by rw [List.getElem?_eq_getElem h1] at hst; injection hst
  rw [← h2, List.take_append_getElem h1, List.take_of_length_le (by omega)]
end Go.Proofs.YtmgpaheobhfioaaDoor
/- Accumulators: New, Copy, Merge, Exact. -/
namespace Go.Proofs.YtmgpaheobhfioaaDoor
open Go.RowKit
set_option linter.unusedVariables false
set_option linter.unusedSimpArgs false

def accObj (a0 a1 a2 a3 a4 m c : Int) : Obj := .cells #[.int .u64 a0, .int .u64 a1, .int .u64 a2, .int .u64 a3, .int .u64 a4, .int .i64 m, .int .i64 c] 68
theorem acc_made (w : World) (l : List Nat) (c : Nat) (N : Nat → Nat) (hr : Rep N (sumZ l)) : AccOf (w.alloc (accObj (N 0) (N 1) (N 2) (N 3) (N 4) (metV l : Nat) c)) w.heap.size l c N := by
  unfold accObj
  refine ⟨fun j hj => ?_, hr, by simp [go_sem], by simp [go_sem], fun j => by simp [go_sem]⟩
  rcases j with _ | _ | _ | _ | _ | j
  · simp [go_sem]
  · simp [go_sem]
  · simp [go_sem]
  · simp [go_sem]
  · simp [go_sem]
  · omega
theorem acc_nil (w : World) : AccOf (w.alloc (accObj 0 0 0 0 0 0 0)) w.heap.size [] 0 (fun _ => 0) := acc_made w [] 0 (fun _ => 0) Rep.nil
theorem acc_q (w : World) (a0 a1 a2 a3 a4 m c : Int) : Q w (w.alloc (accObj a0 a1 a2 a3 a4 m c)) := (Q.refl w).cells _ _
set_option maxHeartbeats 400000 in
theorem new_any (w : World) : Calls Tryd.prog 7 #[] w fun e w' => e = .returned (.pointer (some ⟨w.heap.size, 0, none⟩)) ∧ AccOf w' w.heap.size [] 0 (fun _ => 0) ∧ Q w w' ∧ w.heap.size < w'.heap.size := by
  go_enter Tryd.func7, Tryd.ntmps7
  go_wp2_with fail
  go_ret
  exact ⟨rfl, acc_nil w, acc_q w 0 0 0 0 0 0 0, by simp [go_sem]⟩
set_option maxHeartbeats 1000000 in
set_option maxRecDepth 100000 in
theorem copy_any (l : List Nat) (B c : Nat) (N : Nat → Nat) (w : World) (hA : AccOf w B l c N) : Calls Tryd.prog 13 #[.pointer (some ⟨B, 0, none⟩)] w fun e w' => e = .returned (.pointer (some ⟨w.heap.size, 0, none⟩)) ∧ AccOf w' w.heap.size l c N ∧ Q w w' ∧ w.heap.size < w'.heap.size := by
  have c0 := hA.n 0 (by decide)
  have c1 := hA.n 1 (by decide)
  have c2 := hA.n 2 (by decide)
  have c3 := hA.n 3 (by decide)
  have c4 := hA.n 4 (by decide)
  have c5 := hA.m
  have c6 := hA.c
  have HR : Hid (Rep N (sumZ l)) := hA.r
  clear hA
  go_enter Tryd.func13, Tryd.ntmps13
  go_wp2_with fail
  go_ret
  exact ⟨rfl, acc_made w l c N HR.out, acc_q w _ _ _ _ _ _ _, by simp [go_sem]⟩
theorem USl.block {w : World} {v : Value} {S : List Nat} (h : USl w v S) (h0 : 0 < S.length) {g o cap : Nat} (e : v = .slice (Option.some ⟨g, o, none⟩) S.length cap) : g < w.heap.size := by
  obtain ⟨g', o', cap', e', _, hI⟩ := h.some h0
  rw [e] at e'
  injection e' with e1
  injection e1 with e1
  injection e1 with e1
  subst e1
  have hc := hI 0 h0
  rcases Nat.lt_or_ge g w.heap.size with k | k
  · exact k
  · have : w.heap[g]? = none := Array.getElem?_eq_none k
    simp [World.cell?, this] at hc
set_option maxHeartbeats 1000000 in
theorem exact_any0 (v : Value) (S : List Nat) (w : World) (hv : USl w v S) (hb : ∀ i, S.getD i 0 < 4294967296) (hn : S.length ≤ 2147483648) (hT : Tab w) :
    Calls Tryd.prog 26 #[v] w fun e w' => e = .returned (.int .u32 (sumV S 1 : Nat)) ∧ Q w w' := by
  have hm : ∀ s ∈ S, s < 4294967296 := fun s hs => by
    obtain ⟨i, hi, rfl⟩ := List.getElem_of_mem hs
    have := hb i
    rw [List.getD_eq_getElem?_getD, List.getElem?_eq_getElem hi] at this
    exact this
  have HZ : Hid (2 * (sumZ S).natAbs < m64 ^ 5) := sumZ_fits hm hn
  have HV : Hid (USl w v S) := hv
  have HG : Hid (∀ g o cap, 0 < S.length → v = .slice (some ⟨g, o, none⟩) S.length cap → g < w.heap.size) := fun g o cap h0 e => hv.block h0 e
  have HB : Hid (∀ i, S.getD i 0 < 4294967296) := hb
  have HT : Hid (Tab w) := hT
  clear hv hb hT hm
  go_enter Tryd.func26, Tryd.ntmps26
  go_wp2_with fail
  have q0 : Q w (w.alloc (accObj 0 0 0 0 0 0 0)) := acc_q w 0 0 0 0 0 0 0
  refine (acc_add v S [] w.heap.size 0 (fun _ => 0) _ (acc_nil w) (HV.out.next q0) (fun g o cap h0 e => Nat.ne_of_lt (HG.out g o cap h0 e)) HB.out (by omega)).mono ?_
  rintro e w1 ⟨rfl, ⟨N', hA⟩, hF⟩
  rw [List.nil_append] at hA
  have HQ : Hid (Q w w1) := hF.q q0 (Nat.le_refl _)
  clear q0 hF
  go_wp2_with fail
  refine (asum_any S w.heap.size _ N' _ hA HZ.out (HQ.out.tab HT.out)).mono ?_
  rintro e w2 ⟨rfl, q2⟩
  go_wp2_with fail
  go_ret
  exact ⟨rfl, HQ.out.trans q2⟩
theorem exact_any (v : Value) (S : List Nat) (w : World) (hv : USl w v S) (hg : ∀ g o cap, v = .slice (some ⟨g, o, none⟩) S.length cap → g < w.heap.size) (hb : ∀ i, S.getD i 0 < 4294967296) (hn : S.length ≤ 2147483648) (hT : Tab w) :
    Calls Tryd.prog 26 #[v] w fun e w' => e = .returned (.int .u32 (sumV S 1 : Nat)) ∧ Q w w' := exact_any0 v S w hv hb hn hT
/-- Five words written. -/
def put5 (w : World) (A : Nat) (D : Nat → Nat) : World := ((((w.setCell ⟨A, 0, none⟩ (.int .u64 (D 0 : Nat))).setCell ⟨A, 1, none⟩ (.int .u64 (D 1 : Nat))).setCell ⟨A, 2, none⟩ (.int .u64 (D 2 : Nat))).setCell ⟨A, 3, none⟩ (.int .u64 (D 3 : Nat))).setCell ⟨A, 4, none⟩ (.int .u64 (D 4 : Nat))
theorem put5_fb {w : World} {A : Nat} {D : Nat → Nat} : Fb A w (put5 w A D) := (((((Fb.refl A w).set rfl _).set rfl _).set rfl _).set rfl _).set rfl _
theorem put5_off {w : World} {A B j : Nat} {D : Nat → Nat} (h : 5 ≤ j) : (put5 w A D).cell? ⟨B, j, none⟩ = w.cell? ⟨B, j, none⟩ := by
  unfold put5
  rw [World.cell?_setCell_other _ _ _ _ (fun e => by injection e with _ e; omega), World.cell?_setCell_other _ _ _ _ (fun e => by injection e with _ e; omega), World.cell?_setCell_other _ _ _ _ (fun e => by injection e with _ e; omega), World.cell?_setCell_other _ _ _ _ (fun e => by injection e with _ e; omega), World.cell?_setCell_other _ _ _ _ (fun e => by injection e with _ e; omega)]
theorem put5_in {w : World} {A : Nat} {N D : Nat → Nat} (h : WIs w A N) : WIs (put5 w A D) A D := by
  have c0 := h 0 (by decide)
  have c1 := h 1 (by decide)
  have c2 := h 2 (by decide)
  have c3 := h 3 (by decide)
  have c4 := h 4 (by decide)
  unfold put5
  intro j hj
  rcases j with _ | _ | _ | _ | _ | j
  · simp [go_sem, c0, c1, c2, c3, c4]
  · simp [go_sem, c0, c1, c2, c3, c4]
  · simp [go_sem, c0, c1, c2, c3, c4]
  · simp [go_sem, c0, c1, c2, c3, c4]
  · simp [go_sem, c0, c1, c2, c3, c4]
  · omega
set_option maxHeartbeats 4000000 in
set_option maxRecDepth 100000 in
theorem merge_any (l m : List Nat) (A B c c' : Nat) (N M : Nat → Nat) (w : World) (hA : AccOf w A l c N) (hB : AccOf w B m c' M) (hn : c + c' ≤ 35184372087808) :
    Calls Tryd.prog 12 #[.pointer (some ⟨A, 0, none⟩), .pointer (some ⟨B, 0, none⟩)] w fun e w' => e = .returned (.tuple #[]) ∧ AccOf w' A (l ++ m) (c + c') (dgV N M) ∧ Fb A w w' := by
  have a0 := hA.n 0 (by decide)
  have a1 := hA.n 1 (by decide)
  have a2 := hA.n 2 (by decide)
  have a3 := hA.n 3 (by decide)
  have a4 := hA.n 4 (by decide)
  have b0 := hB.n 0 (by decide)
  have b1 := hB.n 1 (by decide)
  have b2 := hB.n 2 (by decide)
  have b3 := hB.n 3 (by decide)
  have b4 := hB.n 4 (by decide)
  have da0 := qw_cell a0
  have da1 := qw_cell a1
  have da2 := qw_cell a2
  have da3 := qw_cell a3
  have da4 := qw_cell a4
  have db0 := qw_cell b0
  have db1 := qw_cell b1
  have db2 := qw_cell b2
  have db3 := qw_cell b3
  have db4 := qw_cell b4
  have n0 := qw_some w
  have HA : Hid (AccOf w A l c N) := hA
  have HB : Hid (AccOf w B m c' M) := hB
  have HP : Hid (∀ n : QW w, Calls Tryd.prog 36 #[.agg #[.int .u64 (N 0 : Nat), .int .u64 (N 1 : Nat), .int .u64 (N 2 : Nat), .int .u64 (N 3 : Nat), .int .u64 (N 4 : Nat)], .agg #[.int .u64 (M 0 : Nat), .int .u64 (M 1 : Nat), .int .u64 (M 2 : Nat), .int .u64 (M 3 : Nat), .int .u64 (M 4 : Nat)]] n.x fun e w' => e = .returned (.agg #[.int .u64 (dgV N M 0 : Nat), .int .u64 (dgV N M 1 : Nat), .int .u64 (dgV N M 2 : Nat), .int .u64 (dgV N M 3 : Nat), .int .u64 (dgV N M 4 : Nat)]) ∧ Q n.x w') := fun n => nplus_any N M hA.r.lt hB.r.lt n.x
  clear hA hB a0 a1 a2 a3 a4 b0 b1 b2 b3 b4
  go_enter Tryd.func12, Tryd.ntmps12
  go_wp2_with fail
  refine wp_lastR 12 rfl _ rfl (by kernel_rfl) (by kernel_rfl) (by kernel_rfl) ?_
  simp only [List.take_succ_cons, List.take_zero]
  repeat (first | go_big_quiet_step (first | (go_at_call 36; exact calls_qw (HP.out _))) | quiet_step (first | (go_at_call 36; exact calls_qw (HP.out _))))
  refine wpQuiet_nil ?_
  intro nn K hK
  have HA1 : Hid (AccOf nn.x A l c N) := HA.out.next nn.q
  have HB1 : Hid (AccOf nn.x B m c' M) := HB.out.next nn.q
  have HQ1 : Hid (Q w nn.x) := nn.q
  clear HP da0 da1 da2 da3 da4 db0 db1 db2 db3 db4 n0
  have e0 := HA1.out.n 0 (by decide)
  have e1 := HA1.out.n 1 (by decide)
  have e2 := HA1.out.n 2 (by decide)
  have e3 := HA1.out.n 3 (by decide)
  have e4 := HA1.out.n 4 (by decide)
  have z0 := HA1.out.z
  go_wp2_with fail
  have HF2 : Hid (Fb A w (put5 nn.x A (dgV N M))) := (HQ1.out.fb A).trans put5_fb
  have HN2 : Hid (WIs (put5 nn.x A (dgV N M)) A (dgV N M)) := put5_in HA1.out.n
  have a5 : (put5 nn.x A (dgV N M)).cell? ⟨A, 5, none⟩ = some (.int .i64 (metV l : Nat)) := by rw [put5_off (by decide)]; exact HA1.out.m
  have a6 : (put5 nn.x A (dgV N M)).cell? ⟨A, 6, none⟩ = some (.int .i64 (c : Nat)) := by rw [put5_off (by decide)]; exact HA1.out.c
  have b5 : (put5 nn.x A (dgV N M)).cell? ⟨B, 5, none⟩ = some (.int .i64 (metV m : Nat)) := by rw [put5_off (by decide)]; exact HB1.out.m
  have b6 : (put5 nn.x A (dgV N M)).cell? ⟨B, 6, none⟩ = some (.int .i64 (c' : Nat)) := by rw [put5_off (by decide)]; exact HB1.out.c
  have z2 : ∀ j, (put5 nn.x A (dgV N M)).frozen? ⟨A, j, none⟩ = false := fun j => by rw [put5_fb.frz]; exact z0 j
  have HR : Hid (Rep (dgV N M) (sumZ (l ++ m))) := by
    show Rep (dgV N M) (sumZ (l ++ m))
    rw [sumZ_append]; exact HA.out.r.plus HB.out.r
  obtain ⟨y, hy⟩ : ∃ y, put5 nn.x A (dgV N M) = y := ⟨_, rfl⟩
  rw [hy] at a5 a6 b5 b6 z2 HF2 HN2
  unfold put5 at hy
  rw [hy]
  clear hy e0 e1 e2 e3 e4 z0 HA1 HB1 HQ1 HA HB
  have hor := or_small (metV l) (metV_lt l) (metV m) (metV_lt m)
  have HM : Hid (metV (l ++ m) = metV l ||| metV m) := metV_append l m
  generalize metV l = ml at *
  generalize metV m = mm at *
  have da5 := qw_cell a5
  have db5 := qw_cell b5
  have n0 := qw_some y
  refine wp_lastR 11 rfl _ rfl (by kernel_rfl) (by kernel_rfl) (by kernel_rfl) ?_
  simp only [List.take_succ_cons, List.take_zero]
  repeat (first | go_big_quiet_step (fail) | quiet_step (fail))
  refine wpQuiet_nil ?_
  intro n2 K2 hK2
  have f5 := n2.q.cell a5
  have f6 := n2.q.cell a6
  have g6 := n2.q.cell b6
  have zf : ∀ j, n2.x.frozen? ⟨A, j, none⟩ = false := fun j => by rw [n2.q.2]; exact z2 j
  have HF3 : Hid (Fb A w n2.x) := HF2.out.trans (n2.q.fb A)
  have HN3 : Hid (WIs n2.x A (dgV N M)) := fun j hj => n2.q.cell (HN2.out j hj)
  clear da5 db5 n0 a5 a6 b5 b6 z2 HF2 HN2
  generalize n2.x = y2 at *
  have z5 := zf 5
  go_wp2_with fail
  have h6 : (y2.setCell ⟨A, 5, none⟩ (.int .i64 ((ml ||| mm : Nat) : Int))).cell? ⟨A, 6, none⟩ = some (.int .i64 (c : Nat)) := by rw [set_off (by decide)]; exact f6
  have k6 : (y2.setCell ⟨A, 5, none⟩ (.int .i64 ((ml ||| mm : Nat) : Int))).cell? ⟨B, 6, none⟩ = some (.int .i64 (c' : Nat)) := by
    rw [World.cell?_setCell_other _ _ _ _ (fun e => by injection e with _ e; omega)]; exact g6
  have h5 : (y2.setCell ⟨A, 5, none⟩ (.int .i64 ((ml ||| mm : Nat) : Int))).cell? ⟨A, 5, none⟩ = some (.int .i64 ((ml ||| mm : Nat) : Int)) := set_same f5
  have HN4 : Hid (WIs (y2.setCell ⟨A, 5, none⟩ (.int .i64 ((ml ||| mm : Nat) : Int))) A (dgV N M)) := fun j hj => by rw [set_off (by omega)]; exact HN3.out j hj
  have z4 : ∀ j, (y2.setCell ⟨A, 5, none⟩ (.int .i64 ((ml ||| mm : Nat) : Int))).frozen? ⟨A, j, none⟩ = false := fun j => by rw [World.frozen?_setCell]; exact zf j
  have HF4 : Hid (Fb A w (y2.setCell ⟨A, 5, none⟩ (.int .i64 ((ml ||| mm : Nat) : Int)))) := HF3.out.set rfl _
  generalize y2.setCell ⟨A, 5, none⟩ (.int .i64 ((ml ||| mm : Nat) : Int)) = y3 at *
  clear f5 f6 g6 zf HF3 HN3 z5 hor
  have da6 := qw_cell h6
  have db6 := qw_cell k6
  have n0 := qw_some y3
  have ew : wrap64 ((c : Int) + (c' : Int)) = ((c + c' : Nat) : Int) := by unfold wrap64; omega
  refine wp_lastR 11 rfl _ rfl (by kernel_rfl) (by kernel_rfl) (by kernel_rfl) ?_
  simp only [List.take_succ_cons, List.take_zero]
  repeat (first | go_big_quiet_step (fail) | quiet_step (fail))
  refine wpQuiet_nil ?_
  intro n3 K3 hK3
  have f5 := n3.q.cell h5
  have f6 := n3.q.cell h6
  have zf : ∀ j, n3.x.frozen? ⟨A, j, none⟩ = false := fun j => by rw [n3.q.2]; exact z4 j
  have HF5 : Hid (Fb A w n3.x) := HF4.out.trans (n3.q.fb A)
  have HN5 : Hid (WIs n3.x A (dgV N M)) := fun j hj => n3.q.cell (HN4.out j hj)
  clear da6 db6 n0 h5 h6 k6 z4 HF4 HN4
  generalize n3.x = y4 at *
  have z6 := zf 6
  have HX : Hid (AccOf (y4.setCell ⟨A, 6, none⟩ (.int .i64 ((c + c' : Nat) : Int))) A (l ++ m) (c + c') (dgV N M)) := by
    have h : AccOf y4 A (l ++ m) c (dgV N M) := ⟨HN5.out, HR.out, by rw [HM.out]; exact f5, f6, zf⟩
    exact h.cnt
  have HY : Hid (Fb A w (y4.setCell ⟨A, 6, none⟩ (.int .i64 ((c + c' : Nat) : Int)))) := HF5.out.set rfl _
  go_wp2_with fail
  refine bodyPost_end (results_none Tryd.results12 _ _ _) rfl ⟨rfl, HX.out, HY.out⟩
end Go.Proofs.YtmgpaheobhfioaaDoor
/- The document's exact sums: what they tell. -/
namespace Go.Proofs.YtmgpaheobhfioaaDoor
open Go.RowKit
set_option linter.unusedVariables false
set_option linter.unusedSimpArgs false

/-- What is told of a sum that isn't finite. -/
def spcV (m : Nat) : Nat := if m < 4 then 0 else if m < 8 then 2139095040 else if m < 12 then 4286578688 else 2143289344
theorem fl_cases : ∀ m, m < 32 → (m < 4 → fl6 m = false ∧ fl7 m = false ∧ fl8 m = false) ∧ (4 ≤ m → m < 8 → fl6 m = false ∧ fl7 m = true ∧ fl8 m = false) ∧ (8 ≤ m → m < 12 → fl6 m = false ∧ fl7 m = false ∧ fl8 m = true) ∧ (12 ≤ m → m < 16 → fl6 m = false ∧ fl7 m = true ∧ fl8 m = true) ∧ (16 ≤ m → fl6 m = true) := fun m hm =>
  ⟨fun h => ⟨decide_eq_false (by omega), decide_eq_false (by omega), decide_eq_false (by omega)⟩, fun h h' => ⟨decide_eq_false (by omega), decide_eq_true (by omega), decide_eq_false (by omega)⟩, fun h h' => ⟨decide_eq_false (by omega), decide_eq_false (by omega), decide_eq_true (by omega)⟩, fun h h' => ⟨decide_eq_false (by omega), decide_eq_true (by omega), decide_eq_true (by omega)⟩, fun h => decide_eq_true h⟩
set_option maxHeartbeats 1000000 in
theorem special_any (l : List Nat) (B : Nat) (w : World) (hS : SAt w B l) : Calls Tryd.prog 61 #[.pointer (some ⟨B, 0, none⟩)] w fun e w' => e = .returned (.tuple #[.int .u32 (spcV (metV l) : Nat), .bool (decide (4 ≤ metV l))]) ∧ w' = w := by
  obtain ⟨k, s, p, L, C, e, m, h1, h2⟩ := hS
  have d6 := h1.c6
  have d7 := h1.c7
  have d8 := h1.c8
  obtain ⟨f1, f2, f3, f4, f5⟩ := fl_cases _ (metV_lt l)
  clear h1 h2
  generalize metV l = t at *
  by_cases c1 : t < 4
  · obtain ⟨g1, g2, g3⟩ := f1 c1
    rw [g1] at d6
    rw [g2] at d7
    rw [g3] at d8
    rw [decide_eq_false (by omega), show spcV t = 0 from if_pos c1]
    clear f1 f2 f3 f4 f5 g1 g2 g3 c1
    go_enter Tryd.func61, Tryd.ntmps61
    go_wp2_with fail
    go_ret2
    exact ⟨rfl, rfl⟩
  · rw [decide_eq_true (by omega)]
    by_cases c2 : t < 8
    · obtain ⟨g1, g2, g3⟩ := f2 (by omega) c2
      rw [g1] at d6
      rw [g2] at d7
      rw [g3] at d8
      rw [show spcV t = 2139095040 by unfold spcV; rw [if_neg c1, if_pos c2]]
      clear f1 f2 f3 f4 f5 g1 g2 g3 c1 c2
      go_enter Tryd.func61, Tryd.ntmps61
      go_wp2_with fail
      go_ret2
      exact ⟨rfl, rfl⟩
    · by_cases c3 : t < 12
      · obtain ⟨g1, g2, g3⟩ := f3 (by omega) c3
        rw [g1] at d6
        rw [g2] at d7
        rw [g3] at d8
        rw [show spcV t = 4286578688 by unfold spcV; rw [if_neg c1, if_neg c2, if_pos c3]]
        clear f1 f2 f3 f4 f5 g1 g2 g3 c1 c2 c3
        go_enter Tryd.func61, Tryd.ntmps61
        go_wp2_with fail
        go_ret2
        exact ⟨rfl, rfl⟩
      · rw [show spcV t = 2143289344 by unfold spcV; rw [if_neg c1, if_neg c2, if_neg c3]]
        by_cases c4 : t < 16
        · obtain ⟨g1, g2, g3⟩ := f4 (by omega) c4
          rw [g1] at d6
          rw [g2] at d7
          rw [g3] at d8
          clear f1 f2 f3 f4 f5 g1 g2 g3 c1 c2 c3 c4
          go_enter Tryd.func61, Tryd.ntmps61
          go_wp2_with fail
          go_ret2
          exact ⟨rfl, rfl⟩
        · have g1 := f5 (by omega)
          rw [g1] at d6
          clear f1 f2 f3 f4 f5 g1 c1 c2 c3 c4 d7 d8
          go_enter Tryd.func61, Tryd.ntmps61
          go_wp2_with fail
          go_ret2
          exact ⟨rfl, rfl⟩
theorem kind_pos (s : Nat) : 1 ≤ kindV s := by
  unfold kindV
  split
  · decide
  · split
    · decide
    · split
      · decide
      · split <;> decide
theorem metV_pos {l : List Nat} (h : l ≠ []) : 1 ≤ metV l := by
  rw [← List.dropLast_concat_getLast h, metV_snoc]
  exact Nat.le_trans (kind_pos _) Nat.right_le_or
theorem sumV_spc {l : List Nat} (h : ¬ metV l < 4) (d : Nat) : sumV l d = spcV (metV l) := by
  unfold sumV spcV
  rw [if_neg h, if_neg h]
  split
  · rfl
  · split
    · rw [if_pos (by omega)]
    · rw [if_neg (by omega)]
theorem sumV_fin {l : List Nat} (h : metV l < 4) (d : Nat) : sumV l d = if sumZ l ≠ 0 then exV (sumZ l) d else if metV l = 1 then 2147483648 else 0 := if_pos h
set_option maxHeartbeats 4000000 in
theorem told_any (l : List Nat) (B : Nat) (w : World) (hS : SAt w B l) (hz : 2 * (sumZ l).natAbs < m64 ^ 5) (hn : l.length ≤ 1000000) : Calls Tryd.prog 41 #[.pointer (some ⟨B, 0, none⟩)] w fun e w' => e = .returned (.int .u32 (sumV l 1 : Nat)) ∧ Q w w' := by
  have HP : Hid _ := special_any l B w hS
  obtain ⟨k, s, p, L, C, e, m, h1, h2⟩ := hS
  have d5 := h1.n
  have d9 := h1.c9
  have c0 := h1.b.c0
  have c1 := h1.b.c1
  have c2 := h1.b.c2
  have c3 := h1.b.c3
  have c4 := h1.b.c4
  by_cases hm : metV l < 4
  · have HV : Hid _ := sumV_fin hm 1
    rw [decide_eq_false (show ¬ 4 ≤ metV l by omega), show spcV (metV l) = 0 from if_pos hm] at HP
    by_cases h0 : l = []
    · have hb0 : ((l.length : Int) == 0) = true := by rw [h0]; rfl
      have HR : Hid (sumV l 1 = 0) := by show sumV l 1 = 0; rw [h0]; decide +kernel
      clear h1 h2 hm HV h0 hz
      go_enter Tryd.func41, Tryd.ntmps41
      go_wp2_with fail
      refine Calls.mono HP.out ?_
      rintro e1 w1 ⟨rfl, rfl⟩
      go_wp2_with fail
      go_ret
      exact ⟨by rw [HR.out]; rfl, Q.refl _⟩
    · have hb0 : ((l.length : Int) == 0) = false := by
        rw [beq_eq_false_iff_ne]
        have : l.length ≠ 0 := fun g => h0 (List.eq_nil_of_length_eq_zero g)
        omega
      obtain ⟨n, hn1, hv1⟩ := h2 h0
      have HN : Hid (NumAt w (num5 k s p L C e m) (.fin s n e false)) := hn1
      have hpos := metV_pos h0
      by_cases hz0 : sumZ l = 0
      · have hn0 : n = 0 := hv1.zero.2 hz0
        by_cases hp : metV l = 1
        · have HR : Hid (sumV l 1 = 2147483648) := by show sumV l 1 = _; rw [HV.out, if_neg (fun h => h hz0), if_pos hp]
          have e9 : fl9 (metV l) = false := by rw [hp]; decide
          rw [e9] at d9
          clear h1 h2 hm HV h0 hz hn1 hv1 hpos hz0 hp e9
          go_enter Tryd.func41, Tryd.ntmps41
          go_wp2_with fail
          refine Calls.mono HP.out ?_
          rintro e1 w1 ⟨rfl, rfl⟩
          go_wp2_with fail
          refine (zero_q _ _ _ HN.out).mono ?_
          rintro e1 w2 ⟨rfl, q2⟩
          rw [zeroB_fin, decide_eq_true hn0]
          have f9 := q2.cell d9
          go_wp2_with fail
          go_ret
          exact ⟨by rw [HR.out]; rfl, q2⟩
        · have HR : Hid (sumV l 1 = 0) := by show sumV l 1 = _; rw [HV.out, if_neg (fun h => h hz0), if_neg hp]
          have e9 : fl9 (metV l) = true := by unfold fl9; exact decide_eq_true (by omega)
          rw [e9] at d9
          clear h1 h2 hm HV h0 hz hn1 hv1 hpos hz0 hp e9
          go_enter Tryd.func41, Tryd.ntmps41
          go_wp2_with fail
          refine Calls.mono HP.out ?_
          rintro e1 w1 ⟨rfl, rfl⟩
          go_wp2_with fail
          refine (zero_q _ _ _ HN.out).mono ?_
          rintro e1 w2 ⟨rfl, q2⟩
          rw [zeroB_fin, decide_eq_true hn0]
          have f9 := q2.cell d9
          go_wp2_with fail
          go_ret
          exact ⟨by rw [HR.out]; rfl, q2⟩
      · have hn0 : n ≠ 0 := fun g => hz0 (hv1.zero.1 g)
        have HR : Hid (sumV l 1 = roundR (.fin s n e false)) := by show sumV l 1 = _; rw [HV.out, if_pos hz0, hv1.told hz0]
        have HF : Hid (fits (.fin s n e false)) := by
          have h3 := hv1.small hz
          obtain ⟨h4, h5, h6⟩ := h3
          exact ⟨by omega, by omega, by omega, fun h => by cases h⟩
        have hlt : roundR (.fin s n e false) < 4294967296 := roundR_lt _
        clear h1 h2 hm HV h0 hz hn1 hv1 hpos hz0
        go_enter Tryd.func41, Tryd.ntmps41
        go_wp2_with fail
        refine Calls.mono HP.out ?_
        rintro e1 w1 ⟨rfl, rfl⟩
        go_wp2_with fail
        refine (zero_q _ _ _ HN.out).mono ?_
        rintro e1 w2 ⟨rfl, q2⟩
        rw [zeroB_fin, decide_eq_false hn0]
        have i0 := q2.cell c0
        have i1 := q2.cell c1
        have i2 := q2.cell c2
        have i3 := q2.cell c3
        have i4 := q2.cell c4
        have HQ2 : Hid (Q w1 w2) := q2
        have SF : Hid (∀ n : QW w2, Calls Tryd.prog 16 #[] n.x fun e w' => e = .returned (.agg #[.int .i64 23, .int .i64 8]) ∧ Q n.x w') := fun n => f32_any n.x
        have SR : Hid (∀ u : QW w2, Calls Tryd.prog 62 #[.agg #[.int .i64 23, .int .i64 8], .agg #[.int .i64 k, .bool s, .slice p L C, .int .i64 e, .bool m]] u.x fun e1 w' => e1 = .returned (.int .u64 (roundR (.fin s n e false) : Int)) ∧ Q u.x w') := fun u => round32_any _ _ u.x (u.q.num (HQ2.out.num HN.out)) HF.out
        generalize roundR (.fin s n e false) = V at *
        have ew : IntKind.u32.wrap (V : Int) = (V : Int) := by rw [IntKind.wrap_u32]; omega
        clear q2 c0 c1 c2 c3 c4
        have j0 := qw_cell i0
        have j1 := qw_cell i1
        have j2 := qw_cell i2
        have j3 := qw_cell i3
        have j4 := qw_cell i4
        have n0 := qw_some w2
        go_wp2_with fail
        refine wp_region_quiet_Q (by kernel_rfl) (by kernel_rfl) ?_
        repeat (first | go_big_quiet_step (first | (go_at_call 16; exact calls_qw (SF.out _)) | (go_at_call 62; exact calls_qw (SR.out _))) | quiet_step (first | (go_at_call 16; exact calls_qw (SF.out _)) | (go_at_call 62; exact calls_qw (SR.out _))))
        refine wpQuiet_nil ?_
        intro w4 hw'
        have hq4 := qw_out hw'
        clear hw' n0 j0 j1 j2 j3 j4
        go_wp2_with fail
        go_ret
        exact ⟨by rw [HR.out]; rfl, HQ2.out.trans hq4⟩
  · have HR : Hid (sumV l 1 = spcV (metV l)) := sumV_spc hm 1
    rw [decide_eq_true (show 4 ≤ metV l by omega)] at HP
    generalize spcV (metV l) = V at *
    clear h1 h2 hm hz
    go_enter Tryd.func41, Tryd.ntmps41
    go_wp2_with fail
    refine Calls.mono HP.out ?_
    rintro e1 w1 ⟨rfl, rfl⟩
    go_wp2_with fail
    go_ret
    exact ⟨by rw [HR.out]; rfl, Q.refl _⟩
end Go.Proofs.YtmgpaheobhfioaaDoor
