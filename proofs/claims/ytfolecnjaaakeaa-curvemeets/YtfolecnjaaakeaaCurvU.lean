/- Plain facts: a curve rises, by value. -/
import Derived.Test.YtfolecnjaaakeaaCRefD
namespace Go.Proofs.Ytfolecnjaaakeaa
open Go.RowKit
set_option linter.unusedVariables false

/-- What a finite binary64 is told as. -/
theorem told_word {V : Nat} (h : rung64 V < 5183643170835005440) : toldD (some (Ieee.double.read V)) = Ieee.single.word (sgn64 V) (rungOf Ieee.single (val64 (rung64 V)) (-1074)) ∧ rungOf Ieee.single (val64 (rung64 V)) (-1074) < 2139095040 := by
  have h1 := nar_lo h
  rw [rung_word64] at h1
  refine ⟨?_, h1⟩
  have hn : (Ieee.double.read V).isNaN = false := by rw [read_fin64 (by omega)]; rfl
  rw [toldD_some hn, read_fin64 (by omega)]
  show Ieee.single.nearest _ _ _ = _
  rw [nearest_rung, rung_word64]
theorem told_srung {V : Nat} (h : rung64 V < 5183643170835005440) : srung32 (toldD (some (Ieee.double.read V))) = if sgn64 V = true then -(rungOf Ieee.single (val64 (rung64 V)) (-1074) : Int) else (rungOf Ieee.single (val64 (rung64 V)) (-1074) : Int) := by
  obtain ⟨e, b⟩ := told_word h
  rw [e]
  obtain ⟨s1, s2⟩ := sgn_word32 (sgn64 V) (r := rungOf Ieee.single (val64 (rung64 V)) (-1074)) (by omega)
  unfold srung32
  rw [s1, s2]
theorem told_fin {V : Nat} (h : rung64 V < 5183643170835005440) : rung32 (toldD (some (Ieee.double.read V))) < 2139095040 := by
  obtain ⟨e, b⟩ := told_word h
  rw [e]
  obtain ⟨s1, s2⟩ := sgn_word32 (sgn64 V) (r := rungOf Ieee.single (val64 (rung64 V)) (-1074)) (by omega)
  rw [s2]; exact b
theorem rung_zero (f : Ieee.Format) (p : Int) : rungOf f 0 p = 0 := by unfold rungOf; simp
theorem narrow_mono {V V' : Nat} (h : rung64 V < 5183643170835005440) (h' : rung64 V' < 5183643170835005440) (hv : sval64 V ≤ sval64 V') : srung32 (toldD (some (Ieee.double.read V))) ≤ srung32 (toldD (some (Ieee.double.read V'))) := by
  rw [told_srung h, told_srung h']
  unfold sval64 at hv
  generalize sgn64 V = s at hv ⊢
  generalize sgn64 V' = t at hv ⊢
  cases s <;> cases t <;> simp only [if_true, Bool.false_eq_true, if_false] at hv ⊢
  · have := rung_mono Ieee.single (-1074) (show val64 (rung64 V) ≤ val64 (rung64 V') by omega); omega
  · have e1 : val64 (rung64 V) = 0 := by omega
    have e2 : val64 (rung64 V') = 0 := by omega
    rw [e1, e2, rung_zero]; decide
  · omega
  · have := rung_mono Ieee.single (-1074) (show val64 (rung64 V') ≤ val64 (rung64 V) by omega); omega

theorem clip_facts {p q y : Nat} (hp : rung32 p < 2139095040) (hq : rung32 q < 2139095040) (hy : rung32 y < 2139095040) (hpq : srung32 p ≤ srung32 q) :
    rung32 (clipV p q y) < 2139095040 ∧ srung32 (clipV p q y) = max (srung32 p) (min (srung32 q) (srung32 y)) := by
  unfold clipV
  rw [lessB_num (fin_nan hy) (fin_nan hp), lessB_num (fin_nan hq) (fin_nan hy)]
  by_cases h1 : srung32 y < srung32 p
  · rw [decide_eq_true h1, if_pos rfl]; exact ⟨hp, by omega⟩
  · rw [decide_eq_false h1]
    by_cases h2 : srung32 q < srung32 y
    · rw [decide_eq_true h2]; exact ⟨hq, by simp; omega⟩
    · rw [decide_eq_false h2]; exact ⟨hy, by simp; omega⟩

theorem piece_fin {px py qx qy x : Nat} (fa : rung32 px < 2139095040) (fb : rung32 py < 2139095040) (fc : rung32 qx < 2139095040) (fd : rung32 qy < 2139095040) (fx : rung32 x < 2139095040)
    (h1 : srung32 px < srung32 x) (h2 : srung32 x < srung32 qx) (h3 : srung32 py ≤ srung32 qy) :
    rung32 (pieceV px py qx qy x) < 2139095040 ∧ srung32 py ≤ srung32 (pieceV px py qx qy x) ∧ srung32 (pieceV px py qx qy x) ≤ srung32 qy := by
  have he := equalB_num (fin_nan fb) (fin_nan fd)
  unfold pieceV
  by_cases g : srung32 py = srung32 qy
  · rw [decide_eq_true g] at he
    rw [if_pos he]; exact ⟨fb, Int.le_refl _, h3⟩
  · rw [decide_eq_false g] at he
    rw [if_neg (by rw [he]; decide)]
    obtain ⟨A, H, D, S, T, V, M, N, e1, e2, e3, e4, e5, e6, hr, _⟩ := piece fa fb fc fd fx ((sampleZ_lt_iff _ _).2 h1) ((sampleZ_lt_iff _ _).2 h2) ((sampleZ_lt_iff _ _).2 (by omega)) rfl
    rw [pieceB_eq e1 e2 e3 e4 e5 e6]
    obtain ⟨c1, c2⟩ := clip_facts fb fd (told_fin hr) h3
    exact ⟨c1, by omega, by omega⟩
theorem piece_mono {px py qx qy x x' : Nat} (fa : rung32 px < 2139095040) (fb : rung32 py < 2139095040) (fc : rung32 qx < 2139095040) (fd : rung32 qy < 2139095040) (fx : rung32 x < 2139095040) (fx' : rung32 x' < 2139095040)
    (h1 : srung32 px < srung32 x) (hxx : srung32 x ≤ srung32 x') (h2 : srung32 x' < srung32 qx) (h3 : srung32 py ≤ srung32 qy) :
    srung32 (pieceV px py qx qy x) ≤ srung32 (pieceV px py qx qy x') := by
  have he := equalB_num (fin_nan fb) (fin_nan fd)
  unfold pieceV
  by_cases g : srung32 py = srung32 qy
  · rw [decide_eq_true g] at he
    rw [if_pos he, if_pos he]; exact Int.le_refl _
  · rw [decide_eq_false g] at he
    rw [if_neg (by rw [he]; decide), if_neg (by rw [he]; decide)]
    obtain ⟨E, hE⟩ : ∃ E : Nat, E = 1074 := ⟨_, rfl⟩
    obtain ⟨A, H, D, S, T, V, M, N, e1, e2, e3, e4, e5, e6, hr, m1, m2, m3⟩ := piece fa fb fc fd fx ((sampleZ_lt_iff _ _).2 h1) ((sampleZ_lt_iff _ _).2 (show srung32 x < srung32 qx by omega)) ((sampleZ_lt_iff _ _).2 (by omega)) hE
    obtain ⟨A', H', D', S', T', V', M', N', e1', e2', e3', e4', e5', e6', hr', m1', m2', m3'⟩ := piece fa fb fc fd fx' ((sampleZ_lt_iff _ _).2 (show srung32 px < srung32 x' by omega)) ((sampleZ_lt_iff _ _).2 h2) ((sampleZ_lt_iff _ _).2 (by omega)) hE
    rw [pieceB_eq e1 e2 e3 e4 e5 e6, pieceB_eq e1' e2' e3' e4' e5' e6']
    rw [e2] at e2'
    rw [e3] at e3'
    cases e2'
    cases e3'
    rw [e4] at e4'
    cases e4'
    have hz : sampleZ x ≤ sampleZ x' := by
      rcases Int.lt_or_eq_of_le hxx with k | k
      · exact Int.le_of_lt ((sampleZ_lt_iff _ _).2 k)
      · have a := sampleZ_lt_iff x x'
        have b := sampleZ_lt_iff x' x
        omega
    have hM := vN_mono (show M ≤ M' by omega)
    have hN : N ≤ N' := by
      have : N * 2 ^ E ≤ N' * 2 ^ E := by rw [m2, m2']; exact Nat.mul_le_mul_right _ hM
      exact Nat.le_of_mul_le_mul_right this (Nat.two_pow_pos E)
    have hN2 := vN_mono hN
    have hv : sval64 V ≤ sval64 V' := by rw [m3, m3']; exact RN_mono (by omega)
    have hy := narrow_mono hr hr' hv
    obtain ⟨_, c2⟩ := clip_facts fb fd (told_fin hr) h3
    obtain ⟨_, c2'⟩ := clip_facts fb fd (told_fin hr') h3
    rw [c2, c2']
    omega

theorem ky_mono {l : List (Nat × Nat)} (hl : COk l) : ∀ {i j : Nat}, i ≤ j → j < l.length → srung32 (ky l i) ≤ srung32 (ky l j) := by
  intro i j h
  induction j with
  | zero => intro _; rw [show i = 0 by omega]; exact Int.le_refl _
  | succ j ih =>
    intro hj
    have h1 := (hl.rise j hj).2
    rcases Nat.lt_or_ge i (j + 1) with g | g
    · have := ih (by omega) (by omega); omega
    · rw [show i = j + 1 by omega]; exact Int.le_refl _
/-- What At tells lies between the knots on both sides. -/
theorem at_range {l : List (Nat × Nat)} (hl : COk l) {x : Nat} (hn : nanN x = false) :
    rung32 (atV l x) < 2139095040 ∧ (aboveV l x = 0 → atV l x = ky l 0) ∧ (aboveV l x = l.length → atV l x = ky l (l.length - 1)) ∧
      (aboveV l x ≠ 0 → aboveV l x < l.length → srung32 (ky l (aboveV l x - 1)) ≤ srung32 (atV l x) ∧ srung32 (atV l x) ≤ srung32 (ky l (aboveV l x))) := by
  obtain ⟨a, b, c⟩ := above_facts l x
  have t := hl.two
  by_cases h0 : aboveV l x = 0
  · rw [atV_lo hn h0]
    exact ⟨(hl.fin 0 (by omega)).2, fun _ => rfl, fun h => by omega, fun h => absurd h0 h⟩
  · by_cases h1 : aboveV l x = l.length
    · rw [atV_knot hn h0 (Or.inl h1), h1]
      exact ⟨(hl.fin _ (by omega)).2, fun h => by omega, fun _ => rfl, fun _ h => by omega⟩
    · cases h2 : equalB (kx l (aboveV l x - 1)) x
      · rw [atV_in hn h0 h1 h2]
        obtain ⟨z0, z1, z2, z3⟩ := in_facts hl hn h0 (by omega) b c h2
        obtain ⟨y0, y1, y2⟩ := piece_fin (hl.fin (aboveV l x - 1) (by omega)).1 (hl.fin (aboveV l x - 1) (by omega)).2 (hl.fin (aboveV l x) (by omega)).1 (hl.fin (aboveV l x) (by omega)).2 z0 z1 z2 z3
        exact ⟨y0, fun h => absurd h h0, fun h => absurd h h1, fun _ _ => ⟨y1, y2⟩⟩
      · rw [atV_knot hn h0 (Or.inr h2)]
        exact ⟨(hl.fin _ (by omega)).2, fun h => absurd h h0, fun h => absurd h h1, fun _ _ => ⟨Int.le_refl _, ky_mono hl (by omega) (by omega)⟩⟩
theorem above_mono {l : List (Nat × Nat)} (hl : COk l) {x x' : Nat} (hn : nanN x = false) (hn' : nanN x' = false) (h : srung32 x ≤ srung32 x') : aboveV l x ≤ aboveV l x' := by
  obtain ⟨a, b, c⟩ := above_facts l x
  obtain ⟨a', b', c'⟩ := above_facts l x'
  rcases Nat.lt_or_ge (aboveV l x') (aboveV l x) with g | g
  · exfalso
    rcases b' with b' | b'
    · omega
    · rcases c with c | c
      · omega
      · rw [lessB_num hn' (fin_nan (hl.fin _ (by omega)).1)] at b'
        rw [lessB_num hn (fin_nan (hl.fin _ (by omega)).1)] at c
        have b' := of_decide_eq_true b'
        have c := of_decide_eq_false c
        rcases Nat.lt_or_eq_of_le (show aboveV l x' ≤ aboveV l x - 1 by omega) with k | k
        · have := kx_mono hl k (by omega); omega
        · rw [k] at b'; omega
  · exact g
/-- At rises. -/
theorem at_mono {l : List (Nat × Nat)} (hl : COk l) {x x' : Nat} (hn : nanN x = false) (hn' : nanN x' = false) (h : srung32 x ≤ srung32 x') : srung32 (atV l x) ≤ srung32 (atV l x') := by
  have hm := above_mono hl hn hn' h
  obtain ⟨a, b, c⟩ := above_facts l x
  obtain ⟨a', b', c'⟩ := above_facts l x'
  obtain ⟨_, r0, r1, r2⟩ := at_range hl hn
  obtain ⟨_, r0', r1', r2'⟩ := at_range hl hn'
  have t := hl.two
  rcases Nat.lt_or_eq_of_le hm with g | g
  · -- apart
    have lo : srung32 (ky l (aboveV l x' - 1)) ≤ srung32 (atV l x') := by
      by_cases k : aboveV l x' = l.length
      · rw [r1' k, k]; exact Int.le_refl _
      · exact (r2' (by omega) (by omega)).1
    have hi : srung32 (atV l x) ≤ srung32 (ky l (aboveV l x' - 1)) := by
      by_cases k : aboveV l x = 0
      · rw [r0 k]; exact ky_mono hl (by omega) (by omega)
      · have := (r2 k (by omega)).2
        have := ky_mono hl (show aboveV l x ≤ aboveV l x' - 1 by omega) (by omega)
        omega
    omega
  · by_cases k0 : aboveV l x = 0
    · rw [r0 k0, r0' (by omega)]; exact Int.le_refl _
    · by_cases k1 : aboveV l x = l.length
      · rw [r1 k1, r1' (by omega)]; exact Int.le_refl _
      · cases h2 : equalB (kx l (aboveV l x - 1)) x
        · obtain ⟨z0, z1, z2, z3⟩ := in_facts hl hn k0 (by omega) b c h2
          have h2' : equalB (kx l (aboveV l x' - 1)) x' = false := by
            rw [equalB_num (fin_nan (hl.fin _ (by omega)).1) hn', ← g]
            exact decide_eq_false (by omega)
          obtain ⟨y0, y1, y2, y3⟩ := in_facts hl hn' (by omega) (by omega) b' c' h2'
          rw [atV_in hn k0 k1 h2, atV_in hn' (by omega) (by omega) h2', ← g]
          rw [← g] at y2
          exact piece_mono (hl.fin (aboveV l x - 1) (by omega)).1 (hl.fin (aboveV l x - 1) (by omega)).2 (hl.fin (aboveV l x) (by omega)).1 (hl.fin (aboveV l x) (by omega)).2 z0 y0 z1 h y2 z3
        · rw [atV_knot hn k0 (Or.inr h2), g]
          exact (r2' (by omega) (by omega)).1
end Go.Proofs.Ytfolecnjaaakeaa
