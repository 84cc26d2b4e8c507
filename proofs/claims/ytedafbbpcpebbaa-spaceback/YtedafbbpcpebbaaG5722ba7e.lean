/- Plain facts: a number rounded to binary32 lies as near as any sample; from 2^128 - 2^103 on it is an infinity. -/
import Derived.Test.YtedafbbpcpebbaaGe6da98f6
import Derived.Test.YtedafbbpcpebbaaG89f3adde
import Derived.Test.YtedafbbpcpebbaaG159b1f7b
namespace Go.Proofs.Ytedafbbpcpebbaa
open Go.RowKit
set_option linter.unusedVariables false
set_option linter.unusedSimpArgs false

/-- A number's size in units of 2^-1074. -/
def zm (n : Nat) (e : Int) : Nat := n * 2 ^ (e + 1074).toNat
theorem zm_cut {n : Nat} {e b : Int} (hb : -1074 ≤ b) (h : b ≤ e) : zm n e = n * 2 ^ (e - b).toNat * 2 ^ (b + 1074).toNat := by
  unfold zm
  rw [Nat.mul_assoc, ← Nat.pow_add]
  congr 2
  omega
theorem zm_le {n k : Nat} {e f : Int} (he : -1074 ≤ e) (hf : -1074 ≤ f) : decide (n * 2 ^ (e - min e f).toNat ≤ k * 2 ^ (f - min e f).toNat) = decide (zm n e ≤ zm k f) := by
  rw [decide_eq_decide, zm_cut (b := min e f) (by omega) (by omega), zm_cut (e := f) (b := min e f) (by omega) (by omega)]
  exact (Nat.mul_le_mul_right_iff (Nat.two_pow_pos _)).symm
theorem rung_zm {n : Nat} {e : Int} (he : -1074 ≤ e) : rungOf Ieee.single n e = rungOf Ieee.single (zm n e) (-1074) := by
  unfold zm
  rw [rung_scale]
  congr 1
  omega
/-- How many digits are lost. -/
def lostZ (M : Nat) : Nat := max (M.log2 - 23) 925
theorem lastZ (M : Nat) : lastOf Ieee.single M (-1074) = -1074 + (lostZ M : Int) := by
  unfold lastOf lostZ; rw [least32, frac32]; omega
theorem kept_bdZ {M : Nat} : rne M (lostZ M) ≤ 16777216 ∧ (925 < lostZ M → 8388608 ≤ rne M (lostZ M)) := by
  have e3 : (-1074 : Int) - (-1074 + (lostZ M : Int)) = -(lostZ M : Int) := by omega
  have hk := kept_le Ieee.single M (-1074)
  rw [lastZ, e3, rz_neg, binade32] at hk
  refine ⟨hk, fun h => ?_⟩
  have hM : M ≠ 0 := by intro h0; subst h0; exact absurd h (by decide)
  have := le_kept Ieee.single hM (-1074) (by rw [lastZ, frac32]; unfold lostZ at *; omega)
  rw [lastZ, e3, rz_neg, binade32] at this
  exact this
theorem rungZ {M : Nat} (hM : M ≠ 0) : rungOf Ieee.single M (-1074) = min ((lostZ M - 925) * 8388608 + rne M (lostZ M)) 2139095040 := by
  unfold rungOf
  rw [if_neg hM, lastZ, least32, binade32, inf32, show (-1074 + (lostZ M : Int) - -149).toNat = lostZ M - 925 by unfold lostZ; omega, show (-1074 : Int) - (-1074 + (lostZ M : Int)) = -(lostZ M : Int) by omega, rz_neg]
theorem lostZ_ge (M : Nat) : 925 ≤ lostZ M := by unfold lostZ; omega
theorem valZ {M c : Nat} (hc : c = 925) (hM : M ≠ 0) (hr : rungOf Ieee.single M (-1074) < 2139095040) : val32 (rungOf Ieee.single M (-1074)) * 2 ^ c = rne M (lostZ M) * 2 ^ lostZ M := by
  rw [rungZ hM] at hr ⊢
  have h1 : (lostZ M - 925) * 8388608 + rne M (lostZ M) < 2139095040 := by omega
  rw [Nat.min_eq_left (by omega), val_of32 kept_bdZ.1 (fun h => kept_bdZ.2 (by omega)), Nat.mul_assoc, ← Nat.pow_add]
  congr 2
  have := lostZ_ge M
  omega
/-- It lies as near as any sample. -/
theorem bestZ {M c : Nat} (hc : c = 925) (hr : rungOf Ieee.single M (-1074) < 2139095040) (r : Nat) : (((val32 (rungOf Ieee.single M (-1074)) * 2 ^ c : Nat) : Int) - (M : Int)).natAbs ≤ (((val32 r * 2 ^ c : Nat) : Int) - (M : Int)).natAbs := by
  by_cases h0 : M = 0
  · subst h0
    rw [rungOf_zero, val_zero32, Nat.zero_mul]
    exact Nat.zero_le _
  · rw [valZ hc h0 hr]
    have hval : val32 r * 2 ^ c = mag32 r * 2 ^ (plc32 r + c) := by unfold val32; rw [Nat.mul_assoc, ← Nat.pow_add]
    rw [hval]
    obtain ⟨K, hK⟩ : ∃ K, K = lostZ M := ⟨_, rfl⟩
    rw [← hK]
    rcases Nat.lt_or_ge (plc32 r + c) K with h | h
    · have hl : 23 + K = M.log2 := by unfold lostZ at hK; omega
      have hm : 2 ^ (23 + K) ≤ M := by rw [hl]; exact Nat.log2_self_le h0
      have hv : mag32 r * 2 ^ (plc32 r + c) < 2 ^ (23 + K) := by
        have a1 : mag32 r * 2 ^ (plc32 r + c) < 2 ^ 24 * 2 ^ (plc32 r + c) := Nat.mul_lt_mul_of_pos_right (mag_lt32 r) (Nat.two_pow_pos _)
        rw [← Nat.pow_add] at a1
        exact Nat.lt_of_lt_of_le a1 (Nat.pow_le_pow_right (by decide) (by omega))
      have hb := rne_best M K (2 ^ 23)
      rw [← Nat.pow_add] at hb
      clear hc hval
      generalize 2 ^ (23 + K) = G at hm hv hb
      generalize mag32 r * 2 ^ (plc32 r + c) = V at hv ⊢
      generalize rne M K * 2 ^ K = W at hb ⊢
      omega
    · have e : mag32 r * 2 ^ (plc32 r + c) = mag32 r * 2 ^ (plc32 r + c - K) * 2 ^ K := by
        rw [Nat.mul_assoc, ← Nat.pow_add, show plc32 r + c - K + K = plc32 r + c by omega]
      rw [e]
      exact rne_best M K _
theorem rne_under {M k d : Nat} (h : 2 * M < (2 * k + 1) * 2 ^ d) : rne M d ≤ k := by
  obtain ⟨h1, _⟩ := rne_near M d
  have hp := Nat.two_pow_pos d
  rcases Nat.lt_or_ge k (rne M d) with g | g
  · have : (k + 1) * 2 ^ d ≤ rne M d * 2 ^ d := Nat.mul_le_mul_right _ g
    rw [Nat.add_mul, Nat.one_mul] at this
    rw [Nat.add_mul, Nat.one_mul, Nat.mul_assoc] at h
    generalize rne M d * 2 ^ d = A at *
    generalize k * 2 ^ d = B at *
    generalize 2 ^ d = C at *
    omega
  · exact g
/-- From 2^128 - 2^103 on it is an infinity, and not below. -/
theorem great_iff {M c : Nat} (hc : c = 1177) : decide (33554431 * 2 ^ c ≤ M) = decide (rungOf Ieee.single M (-1074) = 2139095040) := by
  rw [decide_eq_decide]
  have hle : ∀ M, rungOf Ieee.single M (-1074) ≤ 2139095040 := fun M => by have := rungOf_le Ieee.single M (-1074); rw [inf32] at this; exact this
  constructor
  · intro h
    have h1 := rung_mono Ieee.single (-1074) h
    have h2 : rungOf Ieee.single (33554431 * 2 ^ c) (-1074) = 2139095040 := by
      rw [rung_scale, hc]
      decide +kernel
    rw [h2] at h1
    exact Nat.le_antisymm (hle M) h1
  · intro h
    rcases Nat.lt_or_ge M (33554431 * 2 ^ c) with g | g
    · exfalso
      have hM : M ≠ 0 := fun e => by rw [e, rungOf_zero] at h; cases h
      have hl : M.log2 < 25 + c := (Nat.log2_lt hM).2 (Nat.lt_of_lt_of_le g (by rw [Nat.pow_add]; exact Nat.mul_le_mul_right _ (by decide)))
      have hK : lostZ M ≤ c + 1 := by unfold lostZ; omega
      rw [rungZ hM] at h
      rcases Nat.lt_or_ge (lostZ M) (c + 1) with k | k
      · have := (kept_bdZ (M := M)).1
        omega
      · have hKe : lostZ M = c + 1 := by omega
        have : rne M (c + 1) ≤ 16777215 := rne_under (by
          rw [Nat.pow_succ]
          generalize 2 ^ c = G at g ⊢
          omega)
        rw [hKe] at h
        omega
    · exact g
/-- An exact sum. -/
theorem signed_zm (s : Bool) (n j : Nat) : Ieee.signed s n j = if s = true then -((n * 2 ^ j : Nat) : Int) else ((n * 2 ^ j : Nat) : Int) := by
  unfold Ieee.signed; rw [Nat.shiftLeft_eq]
theorem plus_zs (s t : Bool) (n k : Nat) (e f : Int) (g h : Bool) (he : -1074 ≤ e) (hf : -1074 ≤ f) : ∃ σ N, plusR (.fin s n e g) (.fin t k f h) = .fin σ N (min e f) false ∧ zm N (min e f) = (Ieee.signed s n (e + 1074).toNat + Ieee.signed t k (f + 1074).toNat).natAbs ∧ (N ≠ 0 → σ = decide (Ieee.signed s n (e + 1074).toNat + Ieee.signed t k (f + 1074).toNat < 0)) := by
  obtain ⟨b, hb⟩ : ∃ b, b = min e f := ⟨_, rfl⟩
  obtain ⟨x, hx⟩ : ∃ x, x = n * 2 ^ (e - b).toNat := ⟨_, rfl⟩
  obtain ⟨y, hy⟩ : ∃ y, y = k * 2 ^ (f - b).toNat := ⟨_, rfl⟩
  have zx : n * 2 ^ (e + 1074).toNat = x * 2 ^ (b + 1074).toNat := by rw [hx]; exact zm_cut (b := b) (by omega) (by omega)
  have zy : k * 2 ^ (f + 1074).toNat = y * 2 ^ (b + 1074).toNat := by rw [hy]; exact zm_cut (b := b) (by omega) (by omega)
  have hp : plusR (.fin s n e g) (.fin t k f h) = plusFin s t x y b := by rw [hx, hy, hb]; rfl
  rw [hp, signed_zm, signed_zm, zx, zy, ← hb]
  clear hp hx hy zx zy hb
  generalize hG : 2 ^ (b + 1074).toNat = G
  have hG0 : 0 < G := by rw [← hG]; exact Nat.two_pow_pos _
  have hz : ∀ N, zm N b = N * G := fun N => by unfold zm; rw [hG]
  unfold plusFin
  have key : ∀ N, N ≠ 0 → 0 < N * G := fun N hN => Nat.mul_pos (by omega) hG0
  by_cases hst : s = t
  · subst hst
    rw [if_pos rfl]
    refine ⟨s, x + y, rfl, ?_, fun hN => ?_⟩
    · rw [hz, Nat.add_mul]; split <;> omega
    · have := key _ hN
      rw [Nat.add_mul] at this
      cases s
      · rw [if_neg (by decide), if_neg (by decide), eq_comm, decide_eq_false_iff_not]; omega
      · rw [if_pos rfl, if_pos rfl, eq_comm, decide_eq_true_iff]; omega
  · rw [if_neg hst]
    by_cases hxy : x = y
    · subst hxy
      rw [if_pos rfl]
      refine ⟨false, 0, rfl, ?_, fun hN => absurd rfl hN⟩
      rw [hz, Nat.zero_mul]
      cases s <;> cases t <;> simp at hst ⊢ <;> omega
    · rw [if_neg hxy]
      by_cases hlt : y < x
      · rw [if_pos hlt]
        have hm : y * G < x * G := Nat.mul_lt_mul_of_pos_right hlt hG0
        refine ⟨s, x - y, rfl, ?_, fun _ => ?_⟩
        · rw [hz, Nat.sub_mul]
          cases s <;> cases t <;> simp at hst ⊢ <;> omega
        · cases s <;> cases t <;> simp at hst ⊢ <;> omega
      · rw [if_neg hlt]
        have hm : x * G < y * G := Nat.mul_lt_mul_of_pos_right (by omega) hG0
        refine ⟨t, y - x, rfl, ?_, fun _ => ?_⟩
        · rw [hz, Nat.sub_mul]
          cases s <;> cases t <;> simp at hst ⊢ <;> omega
        · cases s <;> cases t <;> simp at hst ⊢ <;> omega
/-- How far a sample of the same sign lies away. -/
theorem away_zs (s : Bool) (n k : Nat) (e f : Int) (g h : Bool) (he : -1074 ≤ e) (hf : -1074 ≤ f) : ∃ σ N, plusR (.fin s n e g) (.fin (!s) k f h) = .fin σ N (min e f) false ∧ zm N (min e f) = ((zm k f : Int) - (zm n e : Int)).natAbs := by
  obtain ⟨σ, N, h1, h2, _⟩ := plus_zs s (!s) n k e f g h he hf
  refine ⟨σ, N, h1, ?_⟩
  rw [h2, signed_zm, signed_zm]
  unfold zm
  cases s <;> simp <;> omega
end Go.Proofs.Ytedafbbpcpebbaa
/- Keys of samples as plain numbers; what Key and FromKey return. -/
namespace Go.Proofs.Ytedafbbpcpebbaa
open Go.RowKit

def keyN (s : Nat) : Nat := if s < 2147483648 then s + 2147483648 else 4294967295 - s
def fkeyN (k : Nat) : Nat := if 2147483648 ≤ k then k - 2147483648 else 4294967295 - k
theorem keyN_lt {s : Nat} (h : s < 4294967296) : keyN s < 4294967296 := by unfold keyN; split <;> omega
theorem fkeyN_lt {s : Nat} (h : s < 4294967296) : fkeyN s < 4294967296 := by unfold fkeyN; split <;> omega
theorem keyV_N {s : Nat} (h : s < 4294967296) : keyV (s : Int) = (keyN s : Int) := by
  unfold keyN
  by_cases g : s < 2147483648
  · rw [keyV_lo (by omega), if_pos g]; omega
  · rw [keyV_hi (by omega), if_neg g]; omega
theorem keyN_inj {a b : Nat} (ha : a < 4294967296) (hb : b < 4294967296) (h : keyN a = keyN b) : a = b := by
  unfold keyN at h; split at h <;> split at h <;> omega
theorem fkey_key {s : Nat} (h : s < 4294967296) : fkeyN (keyN s) = s := by
  unfold keyN fkeyN; split <;> split <;> omega
theorem key_fkey {k : Nat} (h : k < 4294967296) : keyN (fkeyN k) = k := by
  unfold keyN fkeyN; split <;> split <;> omega

theorem not_hi (k : Int) (h0 : 2147483648 ≤ k) (h1 : k ≤ 4294967295) : bits .andNot .u32 k 2147483648 = k - 2147483648 := by go_bits2
set_option maxHeartbeats 400000 in
theorem fromkey_any (k : Nat) (h1 : k < 4294967296) (w : World) :
    Calls Try.prog 79 #[.int .u32 k] w fun e w' => e = .returned (.int .u32 (fkeyN k : Nat)) ∧ w' = w := by
  by_cases h : k < 2147483648
  · have e1 := and_lo k (by omega) (by omega)
    go_enter Try.func79, Try.ntmps79
    go_wp2
    go_ret
    exact ⟨ret_int (by unfold fkeyN; rw [if_neg (by omega)]; omega), rfl⟩
  · have e1 := and_hi k (by omega) (by omega)
    have e2 := not_hi k (by omega) (by omega)
    go_enter Try.func79, Try.ntmps79
    go_wp2
    go_ret
    exact ⟨ret_int (by unfold fkeyN; rw [if_pos (by omega)]; omega), rfl⟩
set_option maxHeartbeats 400000 in
theorem keyn_any (s : Nat) (h1 : s < 4294967296) (w : World) :
    Calls Try.prog 77 #[.int .u32 s] w fun e w' => e = .returned (.int .u32 (keyN s : Nat)) ∧ w' = w := by
  have := key_any s (by omega) (by omega) w
  rw [keyV_N h1] at this
  exact this
end Go.Proofs.Ytedafbbpcpebbaa
