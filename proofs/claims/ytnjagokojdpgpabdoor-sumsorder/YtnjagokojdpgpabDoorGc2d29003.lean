/- Plain facts: what is told of a list of samples does not hang on their order; a sample and its negative leave it. -/
import Derived.Test.YtnjagokojdpgpabDoorGf5fd79ef
namespace Go.Proofs.YtnjagokojdpgpabDoor
open Go.RowKit
set_option linter.unusedVariables false
set_option linter.unusedSimpArgs false

theorem sumZ_cons (s : Nat) (l : List Nat) : sumZ (s :: l) = unK s + sumZ l := by
  have h := sumZ_append [s] l
  rw [show sumZ [s] = unK s from Int.zero_add _] at h
  exact h
theorem metV_cons (s : Nat) (l : List Nat) : metV (s :: l) = kindV s ||| metV l := by
  have h := metV_append [s] l
  rw [show metV [s] = kindV s from Nat.zero_or _] at h
  exact h
theorem sumZ_perm {l m : List Nat} (h : l.Perm m) : sumZ l = sumZ m := by
  induction h with
  | nil => rfl
  | cons x _ ih => rw [sumZ_cons, sumZ_cons, ih]
  | swap x y l => rw [sumZ_cons, sumZ_cons, sumZ_cons, sumZ_cons]; omega
  | trans _ _ a b => rw [a, b]
theorem metV_perm {l m : List Nat} (h : l.Perm m) : metV l = metV m := by
  induction h with
  | nil => rfl
  | cons x _ ih => rw [metV_cons, metV_cons, ih]
  | swap x y l => rw [metV_cons, metV_cons, metV_cons, metV_cons, ← Nat.or_assoc, ← Nat.or_assoc, Nat.or_comm (kindV x)]
  | trans _ _ a b => rw [a, b]
theorem sumV_perm {l m : List Nat} (h : l.Perm m) (d : Nat) : sumV l d = sumV m d := by
  unfold sumV
  rw [sumZ_perm h, metV_perm h]
theorem four_unK (s : Nat) : (4 : Int) ∣ unK s := by
  unfold unK
  split
  · have h : 4 ∣ szS s * 2 ^ atS s := by
      obtain ⟨k, hk⟩ : ∃ k, atS s = k + 2 := ⟨atS s - 2, by unfold atS; split <;> omega⟩
      rw [hk, Nat.pow_add]
      exact Nat.dvd_trans (Nat.dvd_mul_left 4 (2 ^ k)) (Nat.dvd_mul_left _ _)
    have h' : (4 : Int) ∣ ((szS s * 2 ^ atS s : Nat) : Int) := Int.ofNat_dvd.2 h
    unfold unZ
    split
    · exact h'
    · exact Int.dvd_neg.2 h'
  · exact Int.dvd_zero 4
theorem four_sumZ (l : List Nat) : (4 : Int) ∣ sumZ l := by
  induction l with
  | nil => exact Int.dvd_zero 4
  | cons s l ih => rw [sumZ_cons]; exact Int.dvd_add (four_unK s) ih
theorem exV_some {z : Int} (h0 : z ≠ 0) (h4 : (4 : Int) ∣ z) : exV z 1 ≠ 2147483648 := by
  have hV : 4 ≤ z.natAbs := by omega
  have e : sqV z.natAbs 1 0 = 2 * z.natAbs := by rw [sqV_zero, Nat.div_one, Nat.mod_one, if_pos rfl, Nat.add_zero]
  have h1 : 1 ≤ exR z.natAbs 1 := by
    unfold exR
    rw [e]
    have h8 : rungOf Ieee.single 8 (-152) = 1 := by decide +kernel
    rw [← h8]
    exact rung_mono _ _ (by omega)
  have h2 : exR z.natAbs 1 ≤ 2139095040 := by
    unfold exR rungOf
    split
    · exact Nat.zero_le _
    · exact Nat.min_le_right _ _
  unfold exV
  rw [word32]
  cases decide (z < 0)
  · rw [show Bool.toNat false = 0 from rfl]; omega
  · rw [show Bool.toNat true = 1 from rfl]; omega
/-- The negative of a sample. -/
def ngS (x : Nat) : Nat := if x < 2147483648 then x + 2147483648 else x - 2147483648
theorem ng_lt {x : Nat} (h : x < 4294967296) : ngS x < 4294967296 := by unfold ngS; split <;> omega
theorem ng_parts {x : Nat} (h : x < 4294967296) : szS (ngS x) = szS x ∧ atS (ngS x) = atS x ∧ ngS x % 2147483648 = x % 2147483648 ∧ (ngS x < 2147483648 ↔ ¬ x < 2147483648) := by
  have e1 : ngS x / 8388608 % 256 = x / 8388608 % 256 := by unfold ngS; split <;> omega
  have e2 : ngS x % 8388608 = x % 8388608 := by unfold ngS; split <;> omega
  refine ⟨by unfold szS; rw [e1, e2], by unfold atS; rw [e1], by unfold ngS; split <;> omega, by unfold ngS; split <;> omega⟩
theorem unZ_ng {x : Nat} (h : x < 4294967296) : unZ (ngS x) = -unZ x := by
  obtain ⟨e1, e2, _, e4⟩ := ng_parts h
  unfold unZ
  rw [e1, e2]
  by_cases k : x < 2147483648
  · rw [if_pos k, if_neg (fun g => (e4.1 g) k)]
  · rw [if_neg k, if_pos (e4.2 k), Int.neg_neg]
theorem kinds_ng {x : Nat} (h : x < 4294967296) (hf : x % 2147483648 < 2139095040) : (kindV x = 2 ∧ kindV (ngS x) = 2) ∨ (x = 0 ∧ kindV x = 2 ∧ kindV (ngS x) = 1) ∨ (x = 2147483648 ∧ kindV x = 1 ∧ kindV (ngS x) = 2) := by
  by_cases h0 : x = 0
  · subst h0; exact Or.inr (Or.inl ⟨rfl, by decide, by decide⟩)
  · by_cases h1 : x = 2147483648
    · subst h1; exact Or.inr (Or.inr ⟨rfl, by decide, by decide⟩)
    · obtain ⟨_, _, e3, _⟩ := ng_parts h
      refine Or.inl ⟨?_, ?_⟩
      · unfold kindV; rw [if_neg h1, if_pos hf]
      · have h2 : ngS x ≠ 2147483648 := by unfold ngS; split <;> omega
        unfold kindV; rw [if_neg h2, e3, if_pos hf]
theorem unK_ng {x : Nat} (h : x < 4294967296) (hf : x % 2147483648 < 2139095040) : unK x + unK (ngS x) = 0 := by
  have e := unZ_ng h
  unfold unK
  rcases kinds_ng h hf with ⟨a, b⟩ | ⟨rfl, a, b⟩ | ⟨rfl, a, b⟩
  · rw [if_pos a, if_pos b, e]; omega
  · rw [if_pos a, if_neg (by rw [b]; decide)]; decide
  · rw [if_neg (by rw [a]; decide), if_pos b]; decide
theorem or_2 : ∀ M : Nat, M < 32 → decide (M ||| 2 < 4) = decide (M < 4) ∧ decide (M ||| 2 < 8) = decide (M < 8) ∧ decide (8 ≤ M ||| 2) = decide (8 ≤ M) ∧ decide (M ||| 2 < 12) = decide (M < 12) ∧ (M ||| 2 == 1) = false := by decide +kernel
theorem or_3 : ∀ M : Nat, M < 32 → decide (M ||| 3 < 4) = decide (M < 4) ∧ decide (M ||| 3 < 8) = decide (M < 8) ∧ decide (8 ≤ M ||| 3) = decide (8 ≤ M) ∧ decide (M ||| 3 < 12) = decide (M < 12) ∧ (M ||| 3 == 1) = false := by decide +kernel
theorem or_two (M : Nat) (h : M < 32) (k : Nat) (h1 : k < 4) (h2 : 2 ≤ k) : ((M ||| k < 4) ↔ M < 4) ∧ ((M ||| k < 8) ↔ M < 8) ∧ ((8 ≤ M ||| k ∧ M ||| k < 12) ↔ (8 ≤ M ∧ M < 12)) ∧ ¬ M ||| k = 1 := by
  obtain rfl | rfl : k = 2 ∨ k = 3 := by omega
  · obtain ⟨a, b, c, d, e⟩ := or_2 M h
    exact ⟨decide_eq_decide.1 a, decide_eq_decide.1 b, and_congr (decide_eq_decide.1 c) (decide_eq_decide.1 d), beq_eq_false_iff_ne.1 e⟩
  · obtain ⟨a, b, c, d, e⟩ := or_3 M h
    exact ⟨decide_eq_decide.1 a, decide_eq_decide.1 b, and_congr (decide_eq_decide.1 c) (decide_eq_decide.1 d), beq_eq_false_iff_ne.1 e⟩
/-- A sample and its negative leave what is told. -/
theorem sumV_pair {x : Nat} (h : x < 4294967296) (hf : x % 2147483648 < 2139095040) (S : List Nat) : sumV (x :: (S ++ [ngS x])) 1 = if sumV S 1 = 2147483648 then 0 else sumV S 1 := by
  have hZ : sumZ (x :: (S ++ [ngS x])) = sumZ S := by
    rw [sumZ_cons, sumZ_snoc]
    have := unK_ng h hf
    omega
  obtain ⟨k, hk, hk2, hM⟩ : ∃ k, k < 4 ∧ 2 ≤ k ∧ metV (x :: (S ++ [ngS x])) = metV S ||| k := by
    refine ⟨kindV x ||| kindV (ngS x), ?_, ?_, ?_⟩
    · rcases kinds_ng h hf with ⟨a, b⟩ | ⟨_, a, b⟩ | ⟨_, a, b⟩ <;> rw [a, b] <;> decide
    · rcases kinds_ng h hf with ⟨a, b⟩ | ⟨_, a, b⟩ | ⟨_, a, b⟩ <;> rw [a, b] <;> decide
    · rw [metV_cons, metV_snoc, Nat.or_comm, Nat.or_assoc, Nat.or_comm (kindV (ngS x))]
  obtain ⟨a, b, c, d⟩ := or_two (metV S) (metV_lt S) k hk hk2
  have h4 := four_sumZ S
  unfold sumV
  rw [hZ, hM]
  simp only [a, b, c, d]
  generalize sumZ S = z at *
  by_cases m4 : metV S < 4
  · rw [if_pos m4, if_pos m4]
    by_cases hz : z = 0
    · subst hz
      simp only [ne_eq, not_true_eq_false, if_false]
      split <;> rfl
    · have hx := exV_some hz h4
      rw [if_pos hz, if_pos hz, if_neg hx]
  · rw [if_neg m4, if_neg m4]
    split
    · rw [if_neg (by decide)]
    · split
      · rw [if_neg (by decide)]
      · rw [if_neg (by decide)]
end Go.Proofs.YtnjagokojdpgpabDoor
