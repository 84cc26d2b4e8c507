/- Plain facts: sums, products by what isn't negative, and roots rise; near numbers are taken away exactly. -/
import Derived.Test.YtdempklpmggdoaaGdf9e7f96
import Derived.Test.YtdempklpmggdoaaGd0fb7c7f
namespace Go.Proofs.Ytdempklpmggdoaa
open Go.RowKit
set_option linter.unusedVariables false
set_option linter.unusedSimpArgs false

theorem add_key {a c : Nat} (ha : rung32 a < 2139095040) (hc : rung32 c < 2139095040) : srung32 (toldD ((Ieee.single.read a).sum (Ieee.single.read c))) = RS (sampleZ a + sampleZ c) ∧ nanN (toldD ((Ieee.single.read a).sum (Ieee.single.read c))) = false := by
  rw [read_fin32 ha, read_fin32 hc]
  obtain ⟨N, b, e1, e2⟩ := sum_units (sgn32 a) (sgn32 c) (mag32 (rung32 a)) (mag32 (rung32 c)) (-149 + (plc32 (rung32 a) : Int)) (-149 + (plc32 (rung32 c) : Int)) (by omega) (by omega)
  rw [show (-149 + (plc32 (rung32 a) : Int) + 1074).toNat = plc32 (rung32 a) + 925 by omega, show (-149 + (plc32 (rung32 c) : Int) + 1074).toNat = plc32 (rung32 c) + 925 by omega] at e1 e2
  rw [e1]
  exact srung_told (fun h => sg_of h) (e2 _)
theorem sub_key {a c : Nat} (ha : rung32 a < 2139095040) (hc : rung32 c < 2139095040) : srung32 (toldD ((Ieee.single.read a).sum (Ieee.single.read c).opposite)) = RS (sampleZ a - sampleZ c) ∧ nanN (toldD ((Ieee.single.read a).sum (Ieee.single.read c).opposite)) = false := by
  rw [read_fin32 ha, read_fin32 hc]
  obtain ⟨N, b, e1, e2⟩ := sum_units (sgn32 a) (!sgn32 c) (mag32 (rung32 a)) (mag32 (rung32 c)) (-149 + (plc32 (rung32 a) : Int)) (-149 + (plc32 (rung32 c) : Int)) (by omega) (by omega)
  rw [show (-149 + (plc32 (rung32 a) : Int) + 1074).toNat = plc32 (rung32 a) + 925 by omega, show (-149 + (plc32 (rung32 c) : Int) + 1074).toNat = plc32 (rung32 c) + 925 by omega] at e1 e2
  rw [signed_neg, ← Int.sub_eq_add_neg] at e1 e2
  show srung32 (toldD ((Ieee.Datum.number (sgn32 a) (mag32 (rung32 a)) (-149 + (plc32 (rung32 a) : Int))).sum (.number (!sgn32 c) (mag32 (rung32 c)) (-149 + (plc32 (rung32 c) : Int))))) = _ ∧ nanN (toldD ((Ieee.Datum.number (sgn32 a) (mag32 (rung32 a)) (-149 + (plc32 (rung32 a) : Int))).sum (.number (!sgn32 c) (mag32 (rung32 c)) (-149 + (plc32 (rung32 c) : Int))))) = _
  rw [e1]
  exact srung_told (fun h => sg_of h) (e2 _)
theorem signed_xor (s t : Bool) (m n j k : Nat) {l : Nat} (i : Nat) (hl : l = j + k + i) : Ieee.signed (s ^^ t) (m * n) l = Ieee.signed s m j * Ieee.signed t n k * 2 ^ i := by
  subst hl
  unfold Ieee.signed
  simp only [Nat.shiftLeft_eq]
  rw [show m * n * 2 ^ (j + k + i) = m * 2 ^ j * (n * 2 ^ k) * 2 ^ i by rw [Nat.pow_add, Nat.pow_add]; simp only [Nat.mul_comm, Nat.mul_left_comm, Nat.mul_assoc]]
  cases s <;> cases t <;> simp [Int.neg_mul, Int.mul_neg]
theorem mul_key {a c : Nat} (ha : rung32 a < 2139095040) (hc : rung32 c < 2139095040) {i : Nat} (hi : i = 776) : srung32 (toldD ((Ieee.single.read a).product (Ieee.single.read c))) = RS (sval32 a * sval32 c * 2 ^ i) ∧ nanN (toldD ((Ieee.single.read a).product (Ieee.single.read c))) = false := by
  have hv : ∀ x, sval32 x = Ieee.signed (sgn32 x) (mag32 (rung32 x)) (plc32 (rung32 x)) := fun x => by
    unfold sval32 val32 Ieee.signed
    rw [Nat.shiftLeft_eq]
  have hz := signed_xor (sgn32 a) (sgn32 c) (mag32 (rung32 a)) (mag32 (rung32 c)) (plc32 (rung32 a)) (plc32 (rung32 c)) i rfl
  rw [hv a, hv c, ← hz]
  rw [read_fin32 ha, read_fin32 hc]
  show srung32 (toldD (some (.number (sgn32 a ^^ sgn32 c) (mag32 (rung32 a) * mag32 (rung32 c)) (-149 + (plc32 (rung32 a) : Int) + (-149 + (plc32 (rung32 c) : Int)))))) = _ ∧ nanN (toldD (some (.number (sgn32 a ^^ sgn32 c) (mag32 (rung32 a) * mag32 (rung32 c)) (-149 + (plc32 (rung32 a) : Int) + (-149 + (plc32 (rung32 c) : Int)))))) = _
  refine srung_told (fun h => signed_sign h) ?_
  rw [signed_abs, rung_scale]
  congr 1
  omega
theorem srung_pinf : srung32 (toldD (some (.infinity false))) = 2139095040 ∧ nanN (toldD (some (.infinity false))) = false := by
  rw [toldD_inf]
  obtain ⟨a, b⟩ := sgn_word32 false (r := 2139095040) (by decide)
  refine ⟨?_, nanN_word (by decide)⟩
  unfold srung32; rw [a, b]; rfl
theorem srung_ninf : srung32 (toldD (some (.infinity true))) = -2139095040 ∧ nanN (toldD (some (.infinity true))) = false := by
  rw [toldD_inf]
  obtain ⟨a, b⟩ := sgn_word32 true (r := 2139095040) (by decide)
  refine ⟨?_, nanN_word (by decide)⟩
  unfold srung32; rw [a, b]; rfl
theorem nan_made : nanN 2143289344 = true := by decide
/-- Not above: one of both a NaN, or not above. -/
def Rise (A B : Nat) : Prop := nanN A = true ∨ nanN B = true ∨ srung32 A ≤ srung32 B
theorem rise_pinf (A : Nat) : Rise A (toldD (some (.infinity false))) := by
  cases h : nanN A
  · refine Or.inr (Or.inr ?_)
    rw [srung_pinf.1]
    exact (srung_bd h).2
  · exact Or.inl h
theorem rise_ninf (B : Nat) : Rise (toldD (some (.infinity true))) B := by
  cases h : nanN B
  · refine Or.inr (Or.inr ?_)
    rw [srung_ninf.1]
    exact (srung_bd h).1
  · exact Or.inr (Or.inl h)
theorem inf_sign {x : Nat} (h : rung32 x = 2139095040) : (sgn32 x = true ∧ srung32 x = -2139095040) ∨ (sgn32 x = false ∧ srung32 x = 2139095040) := by
  unfold srung32
  cases hs : sgn32 x
  · right; rw [h]; exact ⟨rfl, rfl⟩
  · left; rw [h]; exact ⟨rfl, rfl⟩
theorem add_rises {a b c : Nat} (ha : nanN a = false) (hb : nanN b = false) (h : srung32 a ≤ srung32 b) : Rise (toldD ((Ieee.single.read a).sum (Ieee.single.read c))) (toldD ((Ieee.single.read b).sum (Ieee.single.read c))) := by
  cases hc : nanN c
  · rcases cases32 hc with fc | fc
    · rcases cases32 ha with fa | fa
      · rcases cases32 hb with fb | fb
        · refine Or.inr (Or.inr ?_)
          rw [(add_key fa fc).1, (add_key fb fc).1]
          exact RS_mono (Int.add_le_add_right (samp_le h) _)
        · rcases inf_sign fb with ⟨sb, kb⟩ | ⟨sb, kb⟩
          · have := fin_srung fa; omega
          · rw [read_inf32 fb, read_fin32 fc, sb]
            exact rise_pinf _
      · rcases inf_sign fa with ⟨sa, ka⟩ | ⟨sa, ka⟩
        · rw [read_inf32 fa, read_fin32 fc, sa]
          exact rise_ninf _
        · rcases cases32 hb with fb | fb
          · have := fin_srung fb; omega
          · rcases inf_sign fb with ⟨sb, kb⟩ | ⟨sb, kb⟩
            · omega
            · rw [read_inf32 fb, read_fin32 fc, sb]
              exact rise_pinf _
    · have key : ∀ x, nanN x = false → nanN (toldD ((Ieee.single.read x).sum (Ieee.single.read c))) = true ∨ toldD ((Ieee.single.read x).sum (Ieee.single.read c)) = toldD (some (.infinity (sgn32 c))) := fun x hx => by
        rw [read_inf32 fc]
        rcases cases32 hx with fx | fx
        · rw [read_fin32 fx]; exact Or.inr rfl
        · rw [read_inf32 fx]
          generalize sgn32 x = s
          generalize sgn32 c = t
          cases s <;> cases t
          · exact Or.inr rfl
          · exact Or.inl nan_made
          · exact Or.inl nan_made
          · exact Or.inr rfl
      rcases key a ha with k | k
      · exact Or.inl k
      · rcases key b hb with j | j
        · exact Or.inr (Or.inl j)
        · rw [k, j]
          exact Or.inr (Or.inr (Int.le_refl _))
  · left
    rw [sum_comm]
    obtain ⟨s, t, e⟩ := isNaN_cases (read32_nan hc)
    rw [e]
    exact nan_made
theorem mul_rises {a b c : Nat} (ha : nanN a = false) (hb : nanN b = false) (h : srung32 a ≤ srung32 b) (hs : sgn32 c = false) : Rise (toldD ((Ieee.single.read a).product (Ieee.single.read c))) (toldD ((Ieee.single.read b).product (Ieee.single.read c))) := by
  cases hc : nanN c
  · have zc : ∀ (s : Bool) (m : Nat) (p : Int), m = 0 → nanN (toldD ((Ieee.Datum.infinity s).product (.number false m p))) = true := fun s m p hm => by
      subst hm; exact nan_made
    have pc : ∀ (s : Bool) (m : Nat) (p : Int), m ≠ 0 → (Ieee.Datum.infinity s).product (.number false m p) = some (.infinity s) := fun s m p hm => by
      show (if m = 0 then none else some (Ieee.Datum.infinity (s ^^ false))) = _
      rw [if_neg hm, xor_f]
    rcases cases32 hc with fc | fc
    · have hv0 : 0 ≤ sval32 c := by unfold sval32; rw [hs]; simp
      by_cases mc : mag32 (rung32 c) = 0
      · rcases cases32 ha with fa | fa
        · rcases cases32 hb with fb | fb
          · refine Or.inr (Or.inr ?_)
            rw [(mul_key fa fc rfl).1, (mul_key fb fc rfl).1]
            have e : sval32 c = 0 := by unfold sval32 val32; rw [mc]; simp
            rw [e, Int.mul_zero, Int.mul_zero]
            exact Int.le_refl _
          · right; left
            rw [read_inf32 fb, read_fin32 fc, hs]
            exact zc _ _ _ mc
        · left
          rw [read_inf32 fa, read_fin32 fc, hs]
          exact zc _ _ _ mc
      · rcases cases32 ha with fa | fa
        · rcases cases32 hb with fb | fb
          · refine Or.inr (Or.inr ?_)
            obtain ⟨i, hi⟩ : ∃ i : Nat, i = 776 := ⟨_, rfl⟩
            rw [(mul_key fa fc hi).1, (mul_key fb fc hi).1]
            exact RS_mono (Int.mul_le_mul_of_nonneg_right (Int.mul_le_mul_of_nonneg_right (sval_le h) hv0) (Int.le_of_lt (Int.pow_pos (by decide))))
          · rcases inf_sign fb with ⟨sb, kb⟩ | ⟨sb, kb⟩
            · have := fin_srung fa; omega
            · rw [read_inf32 fb, read_fin32 fc, sb, hs, pc _ _ _ mc]
              exact rise_pinf _
        · rcases inf_sign fa with ⟨sa, ka⟩ | ⟨sa, ka⟩
          · rw [read_inf32 fa, read_fin32 fc, sa, hs, pc _ _ _ mc]
            exact rise_ninf _
          · rcases cases32 hb with fb | fb
            · have := fin_srung fb; omega
            · rcases inf_sign fb with ⟨sb, kb⟩ | ⟨sb, kb⟩
              · omega
              · rw [read_inf32 fb, read_fin32 fc, sb, hs, pc _ _ _ mc]
                exact rise_pinf _
    · have key : ∀ x, nanN x = false → nanN (toldD ((Ieee.single.read x).product (Ieee.single.read c))) = true ∨ (toldD ((Ieee.single.read x).product (Ieee.single.read c)) = toldD (some (.infinity (sgn32 x))) ∧ srung32 x ≠ 0) := fun x hx => by
        rw [read_inf32 fc, hs]
        rcases cases32 hx with fx | fx
        · rw [read_fin32 fx, product_comm]
          by_cases mx : mag32 (rung32 x) = 0
          · left
            show nanN (toldD (if mag32 (rung32 x) = 0 then none else some (Ieee.Datum.infinity (false ^^ sgn32 x)))) = true
            rw [if_pos mx]; exact nan_made
          · right
            refine ⟨?_, fun e => mx ?_⟩
            · show toldD (if mag32 (rung32 x) = 0 then none else some (Ieee.Datum.infinity (false ^^ sgn32 x))) = _
              rw [if_neg mx, Bool.false_xor]
            · have : rung32 x = 0 := by unfold srung32 at e; split at e <;> omega
              rw [this]; rfl
        · right
          rw [read_inf32 fx]
          refine ⟨?_, fun e => ?_⟩
          · show toldD (some (Ieee.Datum.infinity (sgn32 x ^^ false))) = _
            rw [xor_f]
          · unfold srung32 at e; split at e <;> omega
      rcases key a ha with k | ⟨k, ka⟩
      · exact Or.inl k
      · rcases key b hb with j | ⟨j, kb⟩
        · exact Or.inr (Or.inl j)
        · rw [k, j]
          cases sa : sgn32 a
          · have : sgn32 b = false := by
              cases sb : sgn32 b
              · rfl
              · unfold srung32 at h ka kb
                rw [sa, sb] at h
                rw [sa] at ka
                rw [sb] at kb
                simp at h ka kb
                omega
            rw [this]
            exact rise_pinf _
          · exact rise_ninf _
  · left
    rw [product_comm]
    obtain ⟨s, t, e⟩ := isNaN_cases (read32_nan hc)
    rw [e]
    exact nan_made
/-- Roots rise. -/
theorem sr_mono {n n' r r' : Nat} (h : IsRoot n r) (h' : IsRoot n' r') (hn : n ≤ n') : srV n r ≤ srV n' r' := by
  have hr : r ≤ r' := by
    rcases Nat.lt_or_ge r' r with g | g
    · have := Nat.mul_le_mul (show r' + 1 ≤ r from g) (show r' + 1 ≤ r from g)
      have := h.lo; have := h'.hi; omega
    · exact g
  unfold srV
  rcases Nat.lt_or_eq_of_le hr with g | g
  · split <;> split <;> omega
  · subst g
    have := h.lo
    split <;> split <;> omega
theorem sqrt_key {a : Nat} (h0 : rung32 a ≠ 0) (h : rung32 a < 2139095040) (hs : sgn32 a = false) {e : Nat} (he : 400 ≤ e) :
    ∃ R, IsRoot (val32 (rung32 a) * 2 ^ (2 * e + 1)) R ∧ sqrtV a = Ieee.single.word false (rungOf Ieee.single (srV (val32 (rung32 a) * 2 ^ (2 * e + 1)) R) (-75 - (e : Int) - 1)) := by
  obtain ⟨n', r, A, hr, r0, r1, hn, hA, A0, A1, hw⟩ := sqrtV_fin h0 h hs
  obtain ⟨R, hR⟩ : ∃ R, IsRoot (val32 (rung32 a) * 2 ^ (2 * e + 1)) R := ⟨_, root_whole _⟩
  refine ⟨R, hR, ?_⟩
  -- n' * 4^k is the same number
  obtain ⟨k, hk⟩ : ∃ k : Nat, plc32 (rung32 a) + (2 * e + 1) = A + 2 * k := ⟨(plc32 (rung32 a) + (2 * e + 1) - A) / 2, by omega⟩
  have en : val32 (rung32 a) * 2 ^ (2 * e + 1) = n' * 4 ^ k := by
    unfold val32
    rw [hn, Nat.mul_assoc, ← Nat.pow_add, hk, Nat.pow_add, Nat.pow_mul, Nat.mul_assoc]
  rw [en] at hR ⊢
  have hq : R / 2 ^ k = r := root_unique (root_cut hR) hr
  have hl := sr_link Ieee.single (n := n') (R := R) (k := k) ((-149 + (plc32 (rung32 a) : Int) - A) / 2) hR (by rw [hq]; exact Nat.le_trans (by decide) r0)
  rw [hq] at hl
  rw [hw, ← hl]
  congr 2
  omega
theorem sqrt_rises {a b : Nat} (ha : nanN a = false) (hb : nanN b = false) (h : srung32 a ≤ srung32 b) : Rise (sqrtV a) (sqrtV b) := by
  have neg : ∀ x, rung32 x ≠ 0 → sgn32 x = true → nanN (sqrtV x) = true := fun x h1 h2 => by rw [sqrtV_none (Or.inr ⟨h1, h2⟩)]; exact nan_made
  have kw : ∀ (s : Bool) (r : Nat), r ≤ 2139095040 → srung32 (Ieee.single.word s r) = if s = true then -(r : Int) else r := fun s r hr => by
    obtain ⟨p, q⟩ := sgn_word32 s (r := r) (by omega)
    unfold srung32; rw [p, q]
  have rl : ∀ N p, rungOf Ieee.single N p ≤ 2139095040 := fun N p => by have := rungOf_le Ieee.single N p; rw [inf32] at this; exact this
  by_cases za : rung32 a = 0
  · by_cases sb : rung32 b ≠ 0 ∧ sgn32 b = true
    · exact Or.inr (Or.inl (neg b sb.1 sb.2))
    · refine Or.inr (Or.inr ?_)
      rw [sqrtV_zero za, kw _ _ (by decide)]
      have : (if sgn32 a = true then -((0 : Nat) : Int) else ((0 : Nat) : Int)) = 0 := by split <;> rfl
      rw [this]
      by_cases zb : rung32 b = 0
      · rw [sqrtV_zero zb, kw _ _ (by decide)]; split <;> decide
      · have sb : sgn32 b = false := by
          cases hs : sgn32 b
          · rfl
          · exact absurd ⟨zb, hs⟩ sb
        rcases cases32 hb with fb | fb
        · obtain ⟨R, _, e⟩ := sqrt_key zb fb sb (e := 400) (Nat.le_refl _)
          rw [e, kw _ _ (rl _ _), if_neg (by decide)]
          omega
        · rw [sqrtV_pinf fb sb, kw _ _ (by decide)]; decide
  · cases sa : sgn32 a
    · have pa : 0 < srung32 a := by unfold srung32; rw [sa]; simp; omega
      have sb : sgn32 b = false := by
        cases hs : sgn32 b
        · rfl
        · unfold srung32 at h pa; rw [hs] at h; rw [sa] at h pa; simp at h pa; omega
      have zb : rung32 b ≠ 0 := fun e => by unfold srung32 at h pa; rw [sb, e] at h; rw [sa] at h pa; simp at h pa; omega
      rcases cases32 hb with fb | fb
      · rcases cases32 ha with fa | fa
        · refine Or.inr (Or.inr ?_)
          obtain ⟨e, he⟩ : ∃ e : Nat, e = 400 := ⟨_, rfl⟩
          obtain ⟨R, hR, e1⟩ := sqrt_key za fa sa (e := e) (by omega)
          obtain ⟨R', hR', e2⟩ := sqrt_key zb fb sb (e := e) (by omega)
          rw [e1, e2, kw _ _ (rl _ _), kw _ _ (rl _ _), if_neg (by decide), if_neg (by decide)]
          have hv : val32 (rung32 a) ≤ val32 (rung32 b) := by
            refine val_le32 ?_
            unfold srung32 at h; rw [sa, sb] at h; simp at h; omega
          have := rung_mono Ieee.single (-75 - (e : Int) - 1) (sr_mono hR hR' (Nat.mul_le_mul_right _ hv))
          omega
        · have := fin_srung fb
          rcases inf_sign fa with ⟨q, _⟩ | ⟨_, q⟩
          · rw [sa] at q; cases q
          · omega
      · rw [sqrtV_pinf fb sb, ← toldD_inf]
        exact rise_pinf _
    · exact Or.inl (neg a za sa)
/-- Near numbers are taken away exactly. -/
theorem rung_full {M : Nat} (hM : M.log2 ≤ 276) : rungOf Ieee.single M (-149) = lostK32 M * 8388608 + rne M (lostK32 M) := by
  by_cases h : M = 0
  · subst h
    rw [rungOf_zero, show lostK32 0 = 0 from by decide, rne_zero]
  · unfold rungOf
    rw [if_neg h]
    have e1 : lastOf Ieee.single M (-149) = -149 + (lostK32 M : Int) := by unfold lastOf lostK32; rw [least32, frac32]; omega
    have e2 : (-149 + (lostK32 M : Int) - -149).toNat = lostK32 M := by omega
    have e3 : (-149 : Int) - (-149 + (lostK32 M : Int)) = -(lostK32 M : Int) := by omega
    rw [e1, least32, binade32, inf32, e2, e3, rz_neg]
    have hk := (kept_bd32 (M := M)).1
    have hl : lostK32 M ≤ 253 := by unfold lostK32; omega
    rw [Nat.min_eq_left (by omega)]
theorem val_full {M : Nat} (hM : M.log2 ≤ 276) : val32 (rungOf Ieee.single M (-149)) = rne M (lostK32 M) * 2 ^ lostK32 M := by
  rw [rung_full hM, val_of32 kept_bd32.1 kept_bd32.2]
theorem val_exact {M g : Nat} (hM : M.log2 ≤ 276) (hd : 2 ^ g ∣ M) (hb : M < 2 ^ (24 + g)) : val32 (rungOf Ieee.single M (-149)) = M := by
  by_cases h0 : M = 0
  · subst h0; rw [rungOf_zero]; exact val_zero32
  · rw [val_full hM]
    have hl := (Nat.log2_lt h0).2 hb
    obtain ⟨o, ho⟩ := Nat.dvd_trans (Nat.pow_dvd_pow 2 (show lostK32 M ≤ g by unfold lostK32; omega)) hd
    have : rne M (lostK32 M) = o := by
      have e := rne_exact o (lostK32 M)
      rw [Nat.mul_comm, ← ho] at e
      exact e
    rw [this, Nat.mul_comm, ← ho]
theorem near_exact {x y : Nat} (hx : x < 2139095040) (hxy : x ≤ y) (h : val32 y ≤ 2 * val32 x) (hy : y < 2139095040) : val32 (rungOf Ieee.single (val32 y - val32 x) (-149)) = val32 y - val32 x := by
  have hp : plc32 x ≤ plc32 y := by unfold plc32; omega
  have d1 : 2 ^ plc32 x ∣ val32 x := ⟨mag32 x, by unfold val32; rw [Nat.mul_comm]⟩
  have d2 : 2 ^ plc32 x ∣ val32 y := by
    unfold val32
    exact Nat.dvd_trans (Nat.pow_dvd_pow 2 hp) ⟨mag32 y, by rw [Nat.mul_comm]⟩
  have b : val32 x < 2 ^ (24 + plc32 x) := by
    unfold val32
    rw [Nat.pow_add]
    exact Nat.mul_lt_mul_of_pos_right (mag_lt32 x) (Nat.two_pow_pos _)
  have hb : val32 y - val32 x < 2 ^ (24 + plc32 x) := by omega
  refine val_exact (g := plc32 x) ?_ (Nat.dvd_sub d2 d1) hb
  have hp3 : plc32 x ≤ 253 := by unfold plc32; omega
  rcases Nat.eq_zero_or_pos (val32 y - val32 x) with z | z
  · rw [z]; decide
  · have := (Nat.log2_lt (by omega)).2 hb
    omega
theorem sdiff (s : Bool) (x y : Nat) : ((if s = true then -(x : Int) else (x : Int)) - (if s = true then -(y : Int) else (y : Int))).natAbs = x - y + (y - x) := by split <;> omega
theorem sdiff_le {n x y : Nat} (h : n = x - y + (y - x)) (h1 : y ≤ 2 * x) : n ≤ x := by omega
theorem scale_neg {D : Int} {c : Nat} : (D * 2 ^ c < 0) ↔ D < 0 := by
  have hp : (0 : Int) < 2 ^ c := Int.pow_pos (by decide)
  constructor
  · intro g
    rcases Int.lt_or_le D 0 with k | k
    · exact k
    · have := Int.mul_nonneg k (Int.le_of_lt hp); omega
  · exact fun g => Int.mul_neg_of_neg_of_pos g hp
/-- A word of a known signed rung, and its value. -/
theorem val_of_key {d r : Nat} {D : Int} (hrd : srung32 d = if D < 0 then -(r : Int) else (r : Int)) (hv : val32 r = D.natAbs) : sval32 d = D ∧ rung32 d = r := by
  have hrun : rung32 d = r := by
    unfold srung32 at hrd
    split at hrd <;> split at hrd <;> omega
  refine ⟨?_, hrun⟩
  have hz0 : r = 0 → D = 0 := fun e => by rw [e, val_zero32] at hv; omega
  unfold srung32 at hrd
  unfold sval32
  rw [hrun] at hrd ⊢
  rw [hv]
  generalize sgn32 d = s at hrd ⊢
  cases s
  · rw [if_neg (by decide)] at hrd ⊢
    split at hrd <;> omega
  · rw [if_pos rfl] at hrd ⊢
    split at hrd <;> omega
/-- Sterbenz: the difference of near samples is a sample; added again it brings the first one back. -/
theorem near_back {a b : Nat} (ha : rung32 a < 2139095040) (hb : rung32 b < 2139095040) (hs : sgn32 a = sgn32 b) (h1 : val32 (rung32 b) ≤ 2 * val32 (rung32 a)) (h2 : val32 (rung32 a) ≤ 2 * val32 (rung32 b)) :
    nanN (toldD ((Ieee.single.read a).sum (Ieee.single.read b).opposite)) = false ∧ srung32 (toldD ((Ieee.single.read (toldD ((Ieee.single.read a).sum (Ieee.single.read b).opposite))).sum (Ieee.single.read b))) = srung32 a := by
  obtain ⟨hk, hn⟩ := sub_key ha hb
  refine ⟨hn, ?_⟩
  generalize toldD ((Ieee.single.read a).sum (Ieee.single.read b).opposite) = d at hk hn
  have habs : (sval32 a - sval32 b).natAbs = val32 (rung32 a) - val32 (rung32 b) + (val32 (rung32 b) - val32 (rung32 a)) := by
    unfold sval32; rw [hs]; exact sdiff _ _ _
  have hv : val32 (rungOf Ieee.single (sval32 a - sval32 b).natAbs (-149)) = (sval32 a - sval32 b).natAbs := by
    rw [habs]
    rcases Nat.le_total (rung32 a) (rung32 b) with g | g
    · rw [Nat.sub_eq_zero_of_le (val_le32 g), Nat.zero_add]
      exact near_exact ha g h1 hb
    · rw [Nat.sub_eq_zero_of_le (val_le32 g), Nat.add_zero]
      exact near_exact hb g h2 ha
  have hle := sdiff_le habs h1
  obtain ⟨D, hD⟩ : ∃ D, D = sval32 a - sval32 b := ⟨_, rfl⟩
  rw [← hD] at habs hv hle
  obtain ⟨r, hr⟩ : ∃ r, r = rungOf Ieee.single D.natAbs (-149) := ⟨_, rfl⟩
  rw [← hr] at hv
  have hrl : r < 2139095040 := by
    rcases Nat.lt_or_ge (rung32 a) r with g | g
    · have := val_mono32 g; rw [hv] at this; exact absurd hle (Nat.not_le.2 this)
    · exact Nat.lt_of_le_of_lt g ha
  obtain ⟨c, hc⟩ : ∃ c : Nat, c = 925 := ⟨_, rfl⟩
  have hZ : sampleZ a - sampleZ b = D * 2 ^ c := by rw [samp_eq a hc, samp_eq b hc, hD, Int.sub_mul]
  have hrz : rungOf Ieee.single (D * 2 ^ c).natAbs (-1074) = r := by
    rw [Int.natAbs_mul, Int.natAbs_pow, show (2 : Int).natAbs = 2 from rfl, rung_scale, hr, hc]; rfl
  have hrd : srung32 d = if D < 0 then -(r : Int) else (r : Int) := by
    rw [hk, hZ]; unfold RS; rw [hrz]
    by_cases k : D < 0
    · rw [if_pos (scale_neg.2 k), if_pos k]
    · rw [if_neg (fun g => k (scale_neg.1 g)), if_neg k]
  obtain ⟨hdv, hdr⟩ := val_of_key hrd hv
  have hd : rung32 d < 2139095040 := by rw [hdr]; exact hrl
  rw [(add_key hd hb).1]
  have e : sampleZ d + sampleZ b = sampleZ a := by
    rw [samp_eq d hc, samp_eq b hc, samp_eq a hc, ← Int.add_mul, hdv, hD, Int.sub_add_cancel]
  rw [e]
  exact RS_self ha
end Go.Proofs.Ytdempklpmggdoaa
