/- Where two planes are unlike: what the rectangle is. -/
import Derived.Test.YtkgfohodahkmmabPlW
namespace Go.Proofs.Ytkgfohodahkmmab
open Go.RowKit
set_option linter.unusedVariables false
set_option linter.unusedSimpArgs false

theorem mn2_le (x y : Int) : mn2 x y ≤ x ∧ mn2 x y ≤ y ∧ (mn2 x y = x ∨ mn2 x y = y) := by unfold mn2; split <;> omega
theorem mx2_ge (x y : Int) : x ≤ mx2 x y ∧ y ≤ mx2 x y ∧ (mx2 x y = x ∨ mx2 x y = y) := by unfold mx2; split <;> omega
/-- What is known of the rectangle of the first k samples. -/
structure Least (S T : List Nat) (a b k : Nat) (R : Rc) : Prop where
  has : ∀ i, i < k → ¬ S.getD i 0 = T.getD i 0 → R.x0 ≤ ((i % a : Nat) : Int) ∧ ((i % a : Nat) : Int) + 1 ≤ R.x1 ∧ R.y0 ≤ ((i / a : Nat) : Int) ∧ ((i / a : Nat) : Int) + 1 ≤ R.y1
  l0 : R.x0 = a ∨ ∃ i, i < k ∧ ¬ S.getD i 0 = T.getD i 0 ∧ ((i % a : Nat) : Int) = R.x0
  l1 : R.y0 = b ∨ ∃ i, i < k ∧ ¬ S.getD i 0 = T.getD i 0 ∧ ((i / a : Nat) : Int) = R.y0
  l2 : R.x1 = 0 ∨ ∃ i, i < k ∧ ¬ S.getD i 0 = T.getD i 0 ∧ ((i % a : Nat) : Int) = R.x1 - 1
  l3 : R.y1 = 0 ∨ ∃ i, i < k ∧ ¬ S.getD i 0 = T.getD i 0 ∧ ((i / a : Nat) : Int) = R.y1 - 1
theorem least_unR (S T : List Nat) (a b : Nat) : ∀ k, Least S T a b k (unR S T a b k) := by
  intro k
  induction k with
  | zero => exact ⟨fun i hi => absurd hi (Nat.not_lt_zero _), Or.inl rfl, Or.inl rfl, Or.inl rfl, Or.inl rfl⟩
  | succ k ih =>
    by_cases h : S.getD k 0 = T.getD k 0
    · rw [unR_same h]
      refine ⟨fun i hi hd => ?_, ?_, ?_, ?_, ?_⟩
      · by_cases e : i = k
        · subst e; exact absurd h hd
        · exact ih.has i (by omega) hd
      · exact ih.l0.imp id fun ⟨i, h1, h2⟩ => ⟨i, by omega, h2⟩
      · exact ih.l1.imp id fun ⟨i, h1, h2⟩ => ⟨i, by omega, h2⟩
      · exact ih.l2.imp id fun ⟨i, h1, h2⟩ => ⟨i, by omega, h2⟩
      · exact ih.l3.imp id fun ⟨i, h1, h2⟩ => ⟨i, by omega, h2⟩
    · rw [unR_diff h rfl rfl]
      generalize unR S T a b k = R at ih
      obtain ⟨m1, m2, m3⟩ := mn2_le R.x0 ((k % a : Nat) : Int)
      obtain ⟨n1, n2, n3⟩ := mn2_le R.y0 ((k / a : Nat) : Int)
      obtain ⟨p1, p2, p3⟩ := mx2_ge R.x1 (((k % a : Nat) : Int) + 1)
      obtain ⟨q1, q2, q3⟩ := mx2_ge R.y1 (((k / a : Nat) : Int) + 1)
      refine ⟨fun i hi hd => ?_, ?_, ?_, ?_, ?_⟩
      · show mn2 R.x0 _ ≤ _ ∧ _ ≤ mx2 R.x1 _ ∧ mn2 R.y0 _ ≤ _ ∧ _ ≤ mx2 R.y1 _
        by_cases e : i = k
        · subst e; exact ⟨m2, p2, n2, q2⟩
        · have := ih.has i (by omega) hd
          omega
      · show mn2 R.x0 _ = _ ∨ ∃ i, i < k + 1 ∧ _ ∧ _ = mn2 R.x0 _
        rcases m3 with m3 | m3
        · rw [m3]
          exact ih.l0.imp id fun ⟨i, h1, h2⟩ => ⟨i, by omega, h2⟩
        · exact Or.inr ⟨k, by omega, h, m3.symm⟩
      · show mn2 R.y0 _ = _ ∨ ∃ i, i < k + 1 ∧ _ ∧ _ = mn2 R.y0 _
        rcases n3 with n3 | n3
        · rw [n3]
          exact ih.l1.imp id fun ⟨i, h1, h2⟩ => ⟨i, by omega, h2⟩
        · exact Or.inr ⟨k, by omega, h, n3.symm⟩
      · show mx2 R.x1 _ = _ ∨ ∃ i, i < k + 1 ∧ _ ∧ _ = mx2 R.x1 _ - 1
        rcases p3 with p3 | p3
        · rw [p3]
          exact ih.l2.imp id fun ⟨i, h1, h2⟩ => ⟨i, by omega, h2⟩
        · exact Or.inr ⟨k, by omega, h, by omega⟩
      · show mx2 R.y1 _ = _ ∨ ∃ i, i < k + 1 ∧ _ ∧ _ = mx2 R.y1 _ - 1
        rcases q3 with q3 | q3
        · rw [q3]
          exact ih.l3.imp id fun ⟨i, h1, h2⟩ => ⟨i, by omega, h2⟩
        · exact Or.inr ⟨k, by omega, h, by omega⟩
/-- Sides as one number. -/
def sd (p q r s : Bool) : Int := (if p = true then 1 else 0) + (if q = true then 2 else 0) + (if r = true then 4 else 0) + (if s = true then 8 else 0)
theorem sd_1 (p q r s : Bool) : bits .or .i64 (sd p q r s) 1 = sd true q r s := by cases p <;> cases q <;> cases r <;> cases s <;> decide
theorem sd_2 (p q r s : Bool) : bits .or .i64 (sd p q r s) 2 = sd p true r s := by cases p <;> cases q <;> cases r <;> cases s <;> decide
theorem sd_4 (p q r s : Bool) : bits .or .i64 (sd p q r s) 4 = sd p q true s := by cases p <;> cases q <;> cases r <;> cases s <;> decide
theorem sd_8 (p q r s : Bool) : bits .or .i64 (sd p q r s) 8 = sd p q r true := by cases p <;> cases q <;> cases r <;> cases s <;> decide
/-- Which sides have been met among the first k samples. -/
def Met (S T : List Nat) (a k : Nat) (R : Rc) (p q r s : Bool) : Prop := ∀ i, i < k → ¬ S.getD i 0 = T.getD i 0 →
  (((i % a : Nat) : Int) = R.x0 → p = true) ∧ (((i % a : Nat) : Int) = R.x1 - 1 → q = true) ∧ (((i / a : Nat) : Int) = R.y0 → r = true) ∧ (((i / a : Nat) : Int) = R.y1 - 1 → s = true)
theorem Met.same {S T : List Nat} {a k : Nat} {R : Rc} {p q r s : Bool} (h : Met S T a k R p q r s) (he : S.getD k 0 = T.getD k 0) : Met S T a (k + 1) R p q r s := fun i hi hd => by
  by_cases e : i = k
  · subst e; exact absurd he hd
  · exact h i (by omega) hd
theorem Met.step {S T : List Nat} {a k : Nat} {R : Rc} {p q r s p' q' r' s' : Bool} (h : Met S T a k R p q r s) (h1 : p' = true ∨ (p' = p ∧ ¬ ((k % a : Nat) : Int) = R.x0)) (h2 : q' = true ∨ (q' = q ∧ ¬ ((k % a : Nat) : Int) = R.x1 - 1)) (h3 : r' = true ∨ (r' = r ∧ ¬ ((k / a : Nat) : Int) = R.y0)) (h4 : s' = true ∨ (s' = s ∧ ¬ ((k / a : Nat) : Int) = R.y1 - 1)) : Met S T a (k + 1) R p' q' r' s' := fun i hi hd => by
  by_cases e : i = k
  · subst e
    refine ⟨fun g => ?_, fun g => ?_, fun g => ?_, fun g => ?_⟩
    · exact h1.elim id fun x => absurd g x.2
    · exact h2.elim id fun x => absurd g x.2
    · exact h3.elim id fun x => absurd g x.2
    · exact h4.elim id fun x => absurd g x.2
  · obtain ⟨g1, g2, g3, g4⟩ := h i (by omega) hd
    refine ⟨fun g => ?_, fun g => ?_, fun g => ?_, fun g => ?_⟩
    · exact h1.elim id fun x => by rw [x.1]; exact g1 g
    · exact h2.elim id fun x => by rw [x.1]; exact g2 g
    · exact h3.elim id fun x => by rw [x.1]; exact g3 g
    · exact h4.elim id fun x => by rw [x.1]; exact g4 g
theorem met_all {S T : List Nat} {a b : Nat} (hs : Size a b) (hl : S.length = a * b) (hl' : T.length = a * b) (hne : S ≠ T) {p q r s : Bool} (h : Met S T a (a * b) (unR S T a b (a * b)) p q r s) : sd p q r s = 15 := by
  obtain ⟨L1, L2, L3, L4, L5⟩ := least_unR S T a b (a * b)
  obtain ⟨j, hj, hd⟩ : ∃ j, j < a * b ∧ ¬ S.getD j 0 = T.getD j 0 := by
    apply Classical.byContradiction
    intro g
    refine hne (list_ext (by rw [hl, hl']) fun i hi => ?_)
    apply Classical.byContradiction
    intro g2
    exact g ⟨i, by rw [← hl]; exact hi, g2⟩
  obtain ⟨_, h1, h2⟩ := row_lt hj
  have hh := L1 j hj hd
  generalize unR S T a b (a * b) = R at *
  generalize j % a = X at h1 hh
  generalize j / a = Y at h2 hh
  have e1 : p = true := by
    rcases L2 with g | ⟨i, g1, g2, g3⟩
    · omega
    · exact (h i g1 g2).1 g3
  have e2 : q = true := by
    rcases L4 with g | ⟨i, g1, g2, g3⟩
    · omega
    · exact (h i g1 g2).2.1 g3
  have e3 : r = true := by
    rcases L3 with g | ⟨i, g1, g2, g3⟩
    · omega
    · exact (h i g1 g2).2.2.1 g3
  have e4 : s = true := by
    rcases L5 with g | ⟨i, g1, g2, g3⟩
    · omega
    · exact (h i g1 g2).2.2.2 g3
  subst e1 e2 e3 e4
  rfl
/-- A place that is unlike, against the rectangle. -/
theorem rect_bd {S T : List Nat} {a b : Nat} (hs : Size a b) {i : Nat} (hi : i < a * b) (hd : ¬ S.getD i 0 = T.getD i 0) :
    (unR S T a b (a * b)).x0 ≤ ((i % a : Nat) : Int) ∧ ((i % a : Nat) : Int) < (unR S T a b (a * b)).x1 ∧ (unR S T a b (a * b)).y0 ≤ ((i / a : Nat) : Int) ∧ ((i / a : Nat) : Int) < (unR S T a b (a * b)).y1 ∧ (unR S T a b (a * b)).x1 ≤ 1024 ∧ (unR S T a b (a * b)).y1 ≤ 1024 := by
  obtain ⟨L1, L2, L3, L4, L5⟩ := least_unR S T a b (a * b)
  have hh := L1 i hi hd
  have := hs.a2
  have := hs.b2
  generalize unR S T a b (a * b) = R at *
  have u1 : R.x1 ≤ 1024 := by
    rcases L4 with g | ⟨j, g1, g2, g3⟩
    · omega
    · obtain ⟨_, k1, k2⟩ := row_lt g1
      generalize j % a = X at k1 g3
      omega
  have u2 : R.y1 ≤ 1024 := by
    rcases L5 with g | ⟨j, g1, g2, g3⟩
    · omega
    · obtain ⟨_, k1, k2⟩ := row_lt g1
      generalize j / a = Y at k2 g3
      omega
  omega
end Go.Proofs.Ytkgfohodahkmmab
