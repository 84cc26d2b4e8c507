/- The document's exact sums: one sample more. -/
import Derived.Test.YtjjjgdpgfndbdaaDoorG85f43eba
import Derived.Test.YtjjjgdpgfndbdaaDoorG20a75bc1
namespace Go.Proofs.YtjjjgdpgfndbdaaDoor
open Go.RowKit
set_option linter.unusedVariables false
set_option linter.unusedSimpArgs false

def fl6 (m : Nat) : Bool := decide (16 ≤ m)
def fl7 (m : Nat) : Bool := decide (m / 4 % 2 = 1)
def fl8 (m : Nat) : Bool := decide (m / 8 % 2 = 1)
def fl9 (m : Nat) : Bool := decide (2 ≤ m)
theorem fl_upd : ∀ m, m < 32 → ∀ k ∈ [1, 2, 4, 8, 16], fl6 (m ||| k) = (fl6 m || decide (k = 16)) ∧ fl7 (m ||| k) = (fl7 m || decide (k = 4)) ∧ fl8 (m ||| k) = (fl8 m || decide (k = 8)) ∧ fl9 (m ||| k) = (fl9 m || decide (k ≠ 1)) := by decide +kernel
/-- The document's sum of a list, in its block: all but the number itself. -/
structure SFl (w : World) (B : Nat) (l : List Nat) (k : Int) (s : Bool) (p : Option Addr) (L C : Nat) (e : Int) (m : Bool) : Prop where
  b : Box5 w B k s p L C e m
  n : w.cell? ⟨B, 5, none⟩ = some (.int .i64 (l.length : Nat))
  c6 : w.cell? ⟨B, 6, none⟩ = some (.bool (fl6 (metV l)))
  c7 : w.cell? ⟨B, 7, none⟩ = some (.bool (fl7 (metV l)))
  c8 : w.cell? ⟨B, 8, none⟩ = some (.bool (fl8 (metV l)))
  c9 : w.cell? ⟨B, 9, none⟩ = some (.bool (fl9 (metV l)))
  z : ∀ j, w.frozen? ⟨B, j, none⟩ = false
  h : B < w.heap.size
theorem SFl.next {w w' : World} {B : Nat} {l : List Nat} {k : Int} {s : Bool} {p : Option Addr} {L C : Nat} {e : Int} {m : Bool} (h : SFl w B l k s p L C e m) (q : Q w w') : SFl w' B l k s p L C e m :=
  ⟨h.b.next q, q.cell h.n, q.cell h.c6, q.cell h.c7, q.cell h.c8, q.cell h.c9, fun j => by rw [q.2]; exact h.z j, Nat.lt_of_lt_of_le h.h q.1.size⟩
/-- The number of a sum. -/
def SNm (w : World) (l : List Nat) (k : Int) (s : Bool) (p : Option Addr) (L C : Nat) (e : Int) (m : Bool) : Prop := ∃ n, NumAt w (num5 k s p L C e m) (.fin s n e false) ∧ Val s n e (sumZ l)
theorem SNm.next {w w' : World} {l : List Nat} {k : Int} {s : Bool} {p : Option Addr} {L C : Nat} {e : Int} {m : Bool} (h : SNm w l k s p L C e m) (q : Q w w') : SNm w' l k s p L C e m := by
  obtain ⟨n, h1, h2⟩ := h
  exact ⟨n, q.num h1, h2⟩
def SAt (w : World) (B : Nat) (l : List Nat) : Prop := ∃ k s p L C e m, SFl w B l k s p L C e m ∧ (l ≠ [] → SNm w l k s p L C e m)
theorem SAt.next {w w' : World} {B : Nat} {l : List Nat} (h : SAt w B l) (q : Q w w') : SAt w' B l := by
  obtain ⟨k, s, p, L, C, e, m, h1, h2⟩ := h
  exact ⟨k, s, p, L, C, e, m, h1.next q, fun g => (h2 g).next q⟩
/-- Five cells written, behind the number. -/
def putS (y : World) (B : Nat) (n : Int) (x6 x7 x8 x9 : Bool) : World := ((((y.setCell ⟨B, 5, none⟩ (.int .i64 n)).setCell ⟨B, 6, none⟩ (.bool x6)).setCell ⟨B, 7, none⟩ (.bool x7)).setCell ⟨B, 8, none⟩ (.bool x8)).setCell ⟨B, 9, none⟩ (.bool x9)
theorem putS_far {y : World} {B : Nat} {n : Int} {x6 x7 x8 x9 : Bool} {q : Addr} (h : q.block ≠ B ∨ q.off < 5) : (putS y B n x6 x7 x8 x9).cell? q = y.cell? q := by
  unfold putS
  have hn : ∀ j, 5 ≤ j → (⟨B, j, none⟩ : Addr) ≠ q := fun j hj e => by
    subst e
    rcases h with h | h
    · exact h rfl
    · have : j < 5 := h
      omega
  rw [World.cell?_setCell_other _ _ _ _ (hn _ (by decide)), World.cell?_setCell_other _ _ _ _ (hn _ (by decide)), World.cell?_setCell_other _ _ _ _ (hn _ (by decide)), World.cell?_setCell_other _ _ _ _ (hn _ (by decide)), World.cell?_setCell_other _ _ _ _ (hn _ (by decide))]
theorem putS_fb {y : World} {B : Nat} {n : Int} {x6 x7 x8 x9 : Bool} : Fb B y (putS y B n x6 x7 x8 x9) := (((((Fb.refl B y).set rfl _).set rfl _).set rfl _).set rfl _).set rfl _
theorem SFl.put {y : World} {B : Nat} {l l' : List Nat} {k : Int} {s : Bool} {p : Option Addr} {L C : Nat} {e : Int} {m : Bool} (h : SFl y B l k s p L C e m) {n : Int} {x6 x7 x8 x9 : Bool} (hn : n = (l'.length : Nat)) (h6 : x6 = fl6 (metV l')) (h7 : x7 = fl7 (metV l')) (h8 : x8 = fl8 (metV l')) (h9 : x9 = fl9 (metV l')) : SFl (putS y B n x6 x7 x8 x9) B l' k s p L C e m := by
  have d5 := h.n
  have d6 := h.c6
  have d7 := h.c7
  have d8 := h.c8
  have d9 := h.c9
  subst hn h6 h7 h8 h9
  refine ⟨⟨?_, ?_, ?_, ?_, ?_⟩, ?_, ?_, ?_, ?_, ?_, fun j => ?_, ?_⟩
  · rw [putS_far (Or.inr (by simp))]; exact h.b.c0
  · rw [putS_far (Or.inr (by simp))]; exact h.b.c1
  · rw [putS_far (Or.inr (by simp))]; exact h.b.c2
  · rw [putS_far (Or.inr (by simp))]; exact h.b.c3
  · rw [putS_far (Or.inr (by simp))]; exact h.b.c4
  · unfold putS; simp [go_sem, d5, d6, d7, d8, d9]
  · unfold putS; simp [go_sem, d5, d6, d7, d8, d9]
  · unfold putS; simp [go_sem, d5, d6, d7, d8, d9]
  · unfold putS; simp [go_sem, d5, d6, d7, d8, d9]
  · unfold putS; simp [go_sem, d5, d6, d7, d8, d9]
  · rw [putS_fb.frz]; exact h.z j
  · exact Nat.lt_of_lt_of_le h.h putS_fb.size
theorem SNm.put {y : World} {B : Nat} {l : List Nat} {k : Int} {s : Bool} {p : Option Addr} {L C : Nat} {e : Int} {m : Bool} (h : SNm y l k s p L C e m) (hb : y.cell? ⟨B, 0, none⟩ = some (.int .i64 k)) {l' : List Nat} (hl : sumZ l' = sumZ l) {n : Int} {x6 x7 x8 x9 : Bool} : SNm (putS y B n x6 x7 x8 x9) l' k s p L C e m := by
  obtain ⟨n, h1, h2⟩ := h
  exact ⟨n, numAt_but h1 hb (fun a ha => putS_far (Or.inl ha)), by rw [hl]; exact h2⟩
/-- A number written over the sum's. -/
def put0 (y : World) (B : Nat) (k : Int) (s : Bool) (p : Option Addr) (L C : Nat) (e : Int) (m : Bool) : World := ((((y.setCell ⟨B, 0, none⟩ (.int .i64 k)).setCell ⟨B, 1, none⟩ (.bool s)).setCell ⟨B, 2, none⟩ (.slice p L C)).setCell ⟨B, 3, none⟩ (.int .i64 e)).setCell ⟨B, 4, none⟩ (.bool m)
theorem put0_far {y : World} {B : Nat} {k : Int} {s : Bool} {p : Option Addr} {L C : Nat} {e : Int} {m : Bool} {q : Addr} (h : q.block ≠ B ∨ 5 ≤ q.off) : (put0 y B k s p L C e m).cell? q = y.cell? q := by
  unfold put0
  have hn : ∀ j, j < 5 → (⟨B, j, none⟩ : Addr) ≠ q := fun j hj e => by
    subst e
    rcases h with h | h
    · exact h rfl
    · have : 5 ≤ j := h
      omega
  rw [World.cell?_setCell_other _ _ _ _ (hn _ (by decide)), World.cell?_setCell_other _ _ _ _ (hn _ (by decide)), World.cell?_setCell_other _ _ _ _ (hn _ (by decide)), World.cell?_setCell_other _ _ _ _ (hn _ (by decide)), World.cell?_setCell_other _ _ _ _ (hn _ (by decide))]
theorem put0_fb {y : World} {B : Nat} {k : Int} {s : Bool} {p : Option Addr} {L C : Nat} {e : Int} {m : Bool} : Fb B y (put0 y B k s p L C e m) := (((((Fb.refl B y).set rfl _).set rfl _).set rfl _).set rfl _).set rfl _
theorem put0_box {y : World} {B : Nat} {k : Int} {s : Bool} {p : Option Addr} {L C : Nat} {e : Int} {m : Bool} {k0 : Int} {s0 : Bool} {p0 : Option Addr} {L0 C0 : Nat} {e0 : Int} {m0 : Bool} (h : Box5 y B k0 s0 p0 L0 C0 e0 m0) : Box5 (put0 y B k s p L C e m) B k s p L C e m := by
  obtain ⟨c0, c1, c2, c3, c4⟩ := h
  unfold put0
  exact ⟨by simp [go_sem, c0, c1, c2, c3, c4], by simp [go_sem, c0, c1, c2, c3, c4], by simp [go_sem, c0, c1, c2, c3, c4], by simp [go_sem, c0, c1, c2, c3, c4], by simp [go_sem, c0, c1, c2, c3, c4]⟩
theorem SFl.over {y : World} {B : Nat} {l : List Nat} {k0 : Int} {s0 : Bool} {p0 : Option Addr} {L0 C0 : Nat} {e0 : Int} {m0 : Bool} (h : SFl y B l k0 s0 p0 L0 C0 e0 m0) (k : Int) (s : Bool) (p : Option Addr) (L C : Nat) (e : Int) (m : Bool) : SFl (put0 y B k s p L C e m) B l k s p L C e m :=
  ⟨put0_box h.b, by rw [put0_far (Or.inr (by simp))]; exact h.n, by rw [put0_far (Or.inr (by simp))]; exact h.c6, by rw [put0_far (Or.inr (by simp))]; exact h.c7, by rw [put0_far (Or.inr (by simp))]; exact h.c8, by rw [put0_far (Or.inr (by simp))]; exact h.c9, fun j => by rw [put0_fb.frz]; exact h.z j, Nat.lt_of_lt_of_le h.h put0_fb.size⟩
theorem SNm.over {y : World} {B : Nat} {l : List Nat} {k0 : Int} {s0 : Bool} {p0 : Option Addr} {L0 C0 : Nat} {e0 : Int} {m0 : Bool} (hb : Box5 y B k0 s0 p0 L0 C0 e0 m0) {k : Int} {s : Bool} {p : Option Addr} {L C : Nat} {e : Int} {m : Bool} (h : SNm y l k s p L C e m) : SNm (put0 y B k s p L C e m) l k s p L C e m := by
  obtain ⟨n, h1, h2⟩ := h
  exact ⟨n, numAt_but h1 hb.c0 (fun a ha => put0_far (Or.inl ha)), h2⟩
theorem num_start (w : World) : NumAt w (num5 2 false none 0 0 0 false) (.fin false 0 0 false) := ⟨_, rfl, nat_nil w⟩
theorem zero_q (v : Value) (x : RNum) (w : World) (h : NumAt w v x) : Calls Tryd.prog 75 #[v] w fun e w' => e = .returned (.bool (zeroB x)) ∧ Q w w' := by
  refine (zero_any v x w h).mono ?_
  rintro e x' ⟨rfl, c, rfl⟩
  exact ⟨rfl, (Q.refl w).cells _ _⟩
theorem SAt.over {y : World} {B : Nat} {l : List Nat} {k0 : Int} {s0 : Bool} {p0 : Option Addr} {L0 C0 : Nat} {e0 : Int} {m0 : Bool} (h : SFl y B l k0 s0 p0 L0 C0 e0 m0) {k : Int} {s : Bool} {p : Option Addr} {L C : Nat} {e : Int} {m : Bool} {u : Bool} {kk : Nat} {bb : Int} (hn : NumAt y (num5 k s p L C e m) (.fin u kk bb false)) (hv : Val u kk bb (sumZ l)) : SAt (put0 y B k s p L C e m) B l := by
  have hx := hn
  obtain ⟨nv, he, hnat⟩ := hx
  unfold num5 at he
  simp at he
  obtain ⟨rfl, rfl, rfl, rfl, rfl⟩ := he
  exact ⟨_, _, _, _, _, _, _, h.over _ _ _ _ _ _ _, fun _ => SNm.over h.b ⟨kk, hn, hv⟩⟩
end Go.Proofs.YtjjjgdpgfndbdaaDoor
