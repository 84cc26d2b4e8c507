/- The statement SumsLong: whole numbers in units of 2^-20. -/
import Derived.Test.YtnjagokojdpgpabDoorG88450ee0
import Derived.Test.YtnjagokojdpgpabDoorG97f32327
namespace Go.Proofs.YtnjagokojdpgpabDoor
open Go.RowKit
set_option linter.unusedVariables false
set_option linter.unusedSimpArgs false

/-- A whole number in units of 2^-20, as a sample. -/
def xV (v : Int) : Nat := Ieee.single.word (decide (v < 0)) (rungOf Ieee.single v.natAbs (-20))
theorem rung_twenty {m : Nat} (hm : m ≠ 0) (hb : m < 2 ^ 60) : rungOf Ieee.single m 0 = rungOf Ieee.single m (-20) + 20 * 8388608 ∧ 8388608 ≤ rungOf Ieee.single m (-20) ∧ rungOf Ieee.single m 0 < 2139095040 := by
  have e0 : rungOf Ieee.single m 0 = rungOf Ieee.single (m * 2 ^ 149) (-149) := by rw [rung_scale]; rfl
  have e1 : rungOf Ieee.single m (-20) = rungOf Ieee.single (m * 2 ^ 129) (-149) := by rw [rung_scale]; rfl
  have hl : m.log2 < 60 := (Nat.log2_lt hm).2 hb
  have l0 : (m * 2 ^ 149).log2 = m.log2 + 149 := log2_mul_pow hm 149
  have l1 : (m * 2 ^ 129).log2 = m.log2 + 129 := log2_mul_pow hm 129
  have k0 : lostK32 (m * 2 ^ 149) = m.log2 + 106 + 20 := by unfold lostK32; omega
  have k1 : lostK32 (m * 2 ^ 129) = m.log2 + 106 := by unfold lostK32; omega
  have hr : rne (m * 2 ^ 149) (m.log2 + 106 + 20) = rne (m * 2 ^ 129) (m.log2 + 106) := by
    rw [show (149 : Nat) = 129 + 20 from rfl, Nat.pow_add, ← Nat.mul_assoc, rne_scale]
  have hk := kept_bd32 (M := m * 2 ^ 129)
  rw [k1] at hk
  rw [e0, e1, rung32_eq (by omega), rung32_eq (by omega), k0, k1, hr]
  have h2 := hk.2 (by omega)
  have h1 := hk.1
  refine ⟨by omega, by omega, by omega⟩
theorem word_parts32 (s : Bool) {r : Nat} (h : r ≤ 2139095040) : sgn32 (Ieee.single.word s r) = s ∧ rung32 (Ieee.single.word s r) = r ∧ Ieee.single.word s r < 4294967296 := by
  obtain ⟨h1, h2⟩ := sgn_word32 s (r := r) (by omega)
  refine ⟨h1, h2, ?_⟩
  rw [word32]
  cases s <;> simp <;> omega
theorem xV_lt (v : Int) : xV v < 4294967296 := (word_parts32 _ (rungOf_le _ _ _)).2.2
/-- FromInt, then Scale by -20. -/
theorem from_scale {v : Int} (hb : v.natAbs < 2 ^ 60) : roundR (scaleR (min (max (-20) (-1000)) 1000) (numOf Ieee.single (Ieee.single.write (.number (decide (v < 0)) v.natAbs 0)))) = xV v := by
  rw [show (min (max (-20) (-1000)) 1000 : Int) = -20 from rfl, scaleR_link (-20) (-20) (Or.inl rfl)]
  have hw : Ieee.single.write (.number (decide (v < 0)) v.natAbs 0) = Ieee.single.word (decide (v < 0)) (rungOf Ieee.single v.natAbs 0) := nearest_rung _ _ _ _
  rw [hw]
  unfold xV
  by_cases h0 : v.natAbs = 0
  · have hv : v = 0 := by omega
    subst hv
    rw [show (0 : Int).natAbs = 0 from rfl, rungOf_zero, rungOf_zero]
    have hp := word_parts32 (decide ((0 : Int) < 0)) (r := 0) (by decide)
    rw [scaleV_zero hp.2.1, hp.1]
  · obtain ⟨e1, e2, e3⟩ := rung_twenty h0 hb
    obtain ⟨p1, p2, p3⟩ := word_parts32 (decide (v < 0)) (r := rungOf Ieee.single v.natAbs 0) (by omega)
    rw [scaleV_fin (by rw [p2]; omega) (by rw [p2]; exact e3), p1, p2]
    congr 1
    have hs := self32 (r := rungOf Ieee.single v.natAbs (-20)) (by omega)
    generalize rungOf Ieee.single v.natAbs (-20) = r at *
    rw [e1]
    have ep : plc32 (r + 20 * 8388608) = plc32 r + 20 := by unfold plc32; omega
    have em : mag32 (r + 20 * 8388608) = mag32 r := by unfold mag32; rw [ep]; omega
    rw [ep, em]
    rw [show -149 + ((plc32 r + 20 : Nat) : Int) + -20 = -149 + (plc32 r : Int) by omega]
    exact hs
theorem un_val (s : Nat) : szS s * 2 ^ atS s = val32 (rung32 s) * 4 := by
  unfold szS atS val32 mag32 plc32 rung32
  have e : s % 2147483648 / 8388608 = s / 8388608 % 256 := by omega
  rw [e]
  by_cases h : s / 8388608 % 256 = 0
  · rw [if_pos h, if_pos h, h]
    have : s % 2147483648 = s % 8388608 := by omega
    rw [this]
    simp
  · rw [if_neg h, if_neg h]
    obtain ⟨k, hk⟩ : ∃ k, s / 8388608 % 256 = k + 1 := ⟨s / 8388608 % 256 - 1, by omega⟩
    rw [hk, Nat.add_sub_cancel, show k + 1 + 1 = k + 2 from rfl, Nat.pow_add, ← Nat.mul_assoc]
    have : s % 2147483648 - k * 8388608 = s % 8388608 + 8388608 := by omega
    rw [this]
/-- What such a sample is worth, in units of 2^-151. -/
theorem xV_un {v : Int} (hb : v.natAbs < 2 ^ 24) : unK (xV v) = v * 2 ^ 131 ∧ kindV (xV v) = 2 := by
  have hr : rungOf Ieee.single v.natAbs (-20) = rungOf Ieee.single (v.natAbs * 2 ^ 129) (-149) := by rw [rung_scale]; rfl
  have hlog : (v.natAbs * 2 ^ 129).log2 ≤ 270 := by
    by_cases h0 : v.natAbs = 0
    · rw [h0, Nat.zero_mul]; decide
    · rw [log2_mul_pow h0]
      have := (Nat.log2_lt h0).2 hb
      omega
  have hval := vN_exact32 (M := v.natAbs * 2 ^ 129) (g := 129) hlog ⟨v.natAbs, Nat.mul_comm _ _⟩ (by rw [Nat.pow_add]; exact Nat.mul_lt_mul_of_pos_right hb (by decide))
  rw [← hr] at hval
  have hlt : rungOf Ieee.single v.natAbs (-20) < 2139095040 := by
    by_cases h0 : v.natAbs = 0
    · rw [h0, rungOf_zero]; decide
    · have := rung_twenty h0 (Nat.lt_of_lt_of_le hb (by decide)); omega
  obtain ⟨p1, p2, p3⟩ := word_parts32 (decide (v < 0)) (Nat.le_of_lt hlt)
  have hun := un_val (xV v)
  have hx : rung32 (xV v) = rungOf Ieee.single v.natAbs (-20) := p2
  rw [hx, hval] at hun
  have hs : xV v < 2147483648 ↔ ¬ v < 0 := by
    have h1 : sgn32 (xV v) = decide (v < 0) := p1
    have h2 : xV v < 4294967296 := p3
    unfold sgn32 at h1
    constructor
    · intro h hv
      rw [decide_eq_true hv, show xV v / 2147483648 % 2 = 0 by omega] at h1
      cases h1
    · intro hv
      rw [decide_eq_false hv] at h1
      have : xV v / 2147483648 % 2 ≠ 1 := fun e => by rw [e] at h1; cases h1
      omega
  have hk : kindV (xV v) = 2 := by
    unfold kindV
    have hne : xV v ≠ 2147483648 := fun e => by
      have hv : v < 0 := Decidable.byContradiction fun h => by have := hs.2 h; omega
      have h0 : rung32 (xV v) = 0 := by rw [e]; rfl
      rw [hx] at h0
      rw [h0, val_zero32] at hval
      have : v.natAbs = 0 := by
        rcases Nat.eq_zero_or_pos v.natAbs with h | h
        · exact h
        · have := Nat.mul_pos h (show 0 < 2 ^ 129 by decide); omega
      omega
    have hr2 : xV v % 2147483648 < 2139095040 := by have : rung32 (xV v) < 2139095040 := by rw [hx]; exact hlt
                                                    exact this
    rw [if_neg hne, if_pos hr2]
  refine ⟨?_, hk⟩
  rw [unK_fin hk]
  unfold unZ
  rw [hun]
  by_cases hv : v < 0
  · rw [if_neg (fun h => hs.1 h hv)]
    have : v = -(v.natAbs : Int) := by omega
    generalize v.natAbs = m at *
    subst this
    rw [Int.neg_mul]
    congr 1
    rw [Nat.mul_assoc]
    norm_cast
  · rw [if_pos (hs.2 hv)]
    have : v = (v.natAbs : Int) := by omega
    generalize v.natAbs = m at *
    subst this
    rw [Nat.mul_assoc]
    norm_cast
theorem sumZ_xV : ∀ (L : List Int), (∀ v ∈ L, v.natAbs < 2 ^ 24) → sumZ (L.map xV) = L.sum * 2 ^ 131 ∧ (metV (L.map xV) = 0 ∨ metV (L.map xV) = 2)
  | [], _ => ⟨rfl, Or.inl rfl⟩
  | v :: t, h => by
    obtain ⟨i1, i2⟩ := sumZ_xV t fun u hu => h u (List.mem_cons_of_mem _ hu)
    obtain ⟨x1, x2⟩ := xV_un (h v (List.mem_cons_self ..))
    rw [List.map_cons, sumZ_cons, i1, x1, List.sum_cons, Int.add_mul]
    refine ⟨rfl, Or.inr ?_⟩
    have hm : ∀ (l : List Nat) (m : Nat), l.foldl (fun m s => m ||| kindV s) m = m ||| l.foldl (fun m s => m ||| kindV s) 0 := by
      intro l
      induction l with
      | nil => intro m; simp
      | cons a t ih => intro m; rw [List.foldl_cons, List.foldl_cons, ih, ih (0 ||| kindV a), Nat.zero_or, Nat.or_assoc]
    unfold metV at i2 ⊢
    rw [List.foldl_cons, hm, x2, Nat.zero_or]
    rcases i2 with h | h <;> rw [h] <;> rfl
/-- What is told of such a list. -/
theorem sumV_xV {L : List Int} (h : ∀ v ∈ L, v.natAbs < 2 ^ 24) : sumV (L.map xV) 1 = xV L.sum := by
  obtain ⟨h1, h2⟩ := sumZ_xV L h
  unfold sumV
  rw [if_pos (by omega), h1]
  by_cases h0 : L.sum = 0
  · rw [h0, Int.zero_mul, if_neg (by simp), if_neg (by omega)]
    unfold xV
    rw [show (0 : Int).natAbs = 0 from rfl, rungOf_zero]
    rfl
  · have hp : (0 : Int) < 2 ^ 131 := by decide
    rw [if_pos (Int.mul_ne_zero h0 (by decide))]
    unfold exV xV exR
    have e1 : decide (L.sum * 2 ^ 131 < 0) = decide (L.sum < 0) := by
      refine decide_eq_decide.2 ⟨fun h => ?_, fun h => Int.mul_neg_of_neg_of_pos h hp⟩
      rcases Int.lt_or_le L.sum 0 with g | g
      · exact g
      · have := Int.mul_nonneg g (Int.le_of_lt hp); omega
    rw [e1, Int.natAbs_mul, show ((2 : Int) ^ 131).natAbs = 2 ^ 131 from rfl, sqV_zero, Nat.div_one, Nat.mod_one, if_pos rfl, Nat.add_zero]
    congr 1
    rw [show 2 * (L.sum.natAbs * 2 ^ 131) = L.sum.natAbs * 2 ^ 132 by rw [Nat.mul_comm 2, Nat.mul_assoc, ← Nat.pow_succ], rung_scale]
    rfl
end Go.Proofs.YtnjagokojdpgpabDoor
