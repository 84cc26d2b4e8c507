/- Plain facts: rounding to binary64 and then to binary32 does not show where no half-way number lies near. -/
import Derived.Test.YtdempklpmggdoaaG593b3e97
import Derived.Test.YtdempklpmggdoaaG5a5b3126
namespace Go.Proofs.Ytdempklpmggdoaa
open Go.RowKit

theorem up_not {M D : Nat} (h : 2 * (M % 2 ^ D) < 2 ^ D) : rne M D = M / 2 ^ D := by
  unfold rne
  have : ¬ goesUp M D := by unfold goesUp; omega
  rw [if_neg this, Nat.add_zero]
theorem up_yes {M D : Nat} (h : 2 ^ D < 2 * (M % 2 ^ D)) : rne M D = M / 2 ^ D + 1 := by
  unfold rne
  rw [if_pos (show goesUp M D from Or.inl h)]
/-- Rounded twice. -/
theorem twice_gen {M K D : Nat} (hKD : K + 1 ≤ D) (hmid : rne M K * 2 ^ K % 2 ^ D = 2 ^ (D - 1) → rne M K * 2 ^ K = M) : rne (rne M K * 2 ^ K) D = rne M D := by
  obtain ⟨n1, n2⟩ := rne_near M K
  obtain ⟨c, hc⟩ : ∃ c, c = rne M K := ⟨_, rfl⟩
  rw [← hc] at n1 n2 hmid ⊢
  by_cases hCM : c * 2 ^ K = M
  · rw [hCM]
  have hno : c * 2 ^ K % 2 ^ D ≠ 2 ^ (D - 1) := fun h => hCM (hmid h)
  obtain ⟨i, hi⟩ : ∃ i, D = K + 1 + i := ⟨D - K - 1, by omega⟩
  have eU : 2 ^ D = 2 * 2 ^ i * 2 ^ K := by
    rw [hi, show K + 1 + i = 1 + i + K by omega, Nat.pow_add, Nat.pow_add, Nat.pow_one]
  have eH : 2 ^ (D - 1) = 2 ^ i * 2 ^ K := by rw [hi, show K + 1 + i - 1 = i + K by omega, Nat.pow_add]
  have hE := Nat.two_pow_pos K
  have hh := Nat.two_pow_pos i
  have et : c * 2 ^ K % 2 ^ D = c % (2 * 2 ^ i) * 2 ^ K := by rw [eU, Nat.mul_mod_mul_right]
  have hτ : c % (2 * 2 ^ i) < 2 * 2 ^ i := Nat.mod_lt _ (by omega)
  rw [et, eH] at hno
  have hτn : c % (2 * 2 ^ i) ≠ 2 ^ i := fun h => hno (by rw [h])
  have dC := Nat.div_add_mod (c * 2 ^ K) (2 ^ D)
  have dM := Nat.div_add_mod M (2 ^ D)
  have bM := Nat.mod_lt M (show 0 < 2 ^ D by rw [eU]; exact Nat.mul_pos (by omega) hE)
  -- how the rest lies
  have ht : 2 * (c * 2 ^ K % 2 ^ D) + 2 * 2 ^ K ≤ 2 ^ D ∨ (2 ^ D + 2 * 2 ^ K ≤ 2 * (c * 2 ^ K % 2 ^ D) ∧ c * 2 ^ K % 2 ^ D + 2 ^ K ≤ 2 ^ D) := by
    rw [et, eU]
    rcases Nat.lt_or_ge (c % (2 * 2 ^ i)) (2 ^ i) with g | g
    · left
      have := Nat.mul_le_mul_right (2 ^ K) (show c % (2 * 2 ^ i) + 1 ≤ 2 ^ i from g)
      rw [Nat.add_mul, Nat.one_mul] at this
      rw [Nat.mul_assoc 2]
      omega
    · right
      have h1 := Nat.mul_le_mul_right (2 ^ K) (show 2 ^ i + 1 ≤ c % (2 * 2 ^ i) by omega)
      have h2 := Nat.mul_le_mul_right (2 ^ K) (show c % (2 * 2 ^ i) + 1 ≤ 2 * 2 ^ i from hτ)
      rw [Nat.add_mul, Nat.one_mul] at h1 h2
      rw [Nat.mul_assoc 2] at h2 ⊢
      omega
  obtain ⟨U, hU⟩ : ∃ U, U = 2 ^ D := ⟨_, rfl⟩
  obtain ⟨E, hEe⟩ : ∃ E, E = 2 ^ K := ⟨_, rfl⟩
  obtain ⟨C, hC⟩ : ∃ C, C = c * 2 ^ K := ⟨_, rfl⟩
  have r1 := up_not (M := C) (D := D)
  have r2 := up_yes (M := C) (D := D)
  have r3 := up_not (M := M) (D := D)
  have r4 := up_yes (M := M) (D := D)
  rw [← hC] at n1 n2 dC ht ⊢
  rw [← hEe] at n1 n2 ht hE
  rw [← hU] at dC dM bM ht r1 r2 r3 r4
  obtain ⟨q, hq⟩ : ∃ q, q = C / U := ⟨_, rfl⟩
  obtain ⟨t, htt⟩ : ∃ t, t = C % U := ⟨_, rfl⟩
  obtain ⟨a, haa⟩ : ∃ a, a = M / U := ⟨_, rfl⟩
  obtain ⟨b, hbb⟩ : ∃ b, b = M % U := ⟨_, rfl⟩
  rw [← hq, ← htt] at dC
  rw [← haa, ← hbb] at dM
  rw [← htt] at ht
  rw [← hq, ← htt] at r1 r2
  rw [← haa, ← hbb] at r3 r4
  rw [← hbb] at bM
  rcases Nat.lt_trichotomy a q with g | g | g
  · -- one below
    obtain ⟨z, hz⟩ : ∃ z, q = a + 1 + z := ⟨q - a - 1, by omega⟩
    have e1 : U * q = U * a + U + U * z := by rw [hz, Nat.mul_add, Nat.mul_add, Nat.mul_one]
    have hz0 : z = 0 := by
      rcases Nat.eq_zero_or_pos z with k | k
      · exact k
      · have : U * 1 ≤ U * z := Nat.mul_le_mul_left _ k
        omega
    rw [hz0, Nat.mul_zero] at e1
    rcases ht with ht | ⟨ht, ht2⟩
    · rw [r1 (by omega), r4 (by omega)]; omega
    · omega
  · rw [g] at dM
    rcases ht with ht | ⟨ht, ht2⟩
    · rw [r1 (by omega), r3 (by omega), g]
    · rw [r2 (by omega), r4 (by omega), g]
  · obtain ⟨z, hz⟩ : ∃ z, a = q + 1 + z := ⟨a - q - 1, by omega⟩
    have e1 : U * a = U * q + U + U * z := by rw [hz, Nat.mul_add, Nat.mul_add, Nat.mul_one]
    rcases ht with ht | ⟨ht, ht2⟩ <;> omega

/-- To binary64, then to binary32. -/
theorem narrow_twice {Z : Nat} (hZ : Z.log2 ≤ 2000) (hmid : 0 < lostK Z → rne Z (lostK Z) * 2 ^ lostK Z % 2 ^ max (Z.log2 - 23) 925 = 2 ^ (max (Z.log2 - 23) 925 - 1) → rne Z (lostK Z) * 2 ^ lostK Z = Z) :
    rungOf Ieee.single (val64 (rungOf Ieee.double Z (-1074))) (-1074) = rungOf Ieee.single Z (-1074) := by
  rcases Nat.eq_zero_or_pos (lostK Z) with g | g
  · rw [vN_div hZ (by rw [g]; exact Nat.one_dvd _)]
  · rw [vN_eq hZ]
    have hL : Z.log2 = 52 + lostK Z := by unfold lostK at *; omega
    have h0 : Z ≠ 0 := by intro h0; rw [h0] at g; exact absurd g (by decide)
    obtain ⟨D, hD⟩ : ∃ D, D = max (Z.log2 - 23) 925 := ⟨_, rfl⟩
    have htw := twice_gen (M := Z) (K := lostK Z) (D := D) (by omega) (by rw [hD]; exact hmid g)
    obtain ⟨b1, b2⟩ := kept_bd (M := Z)
    have b2 := b2 g
    obtain ⟨c, hc⟩ : ∃ c, c = rne Z (lostK Z) := ⟨_, rfl⟩
    rw [← hc] at htw b1 b2 ⊢
    have hr : rungOf Ieee.single Z (-1074) = min ((D - 925) * 8388608 + rne Z D) 2139095040 := by
      unfold rungOf
      have hl : lastOf Ieee.single Z (-1074) = -1074 + (D : Int) := by unfold lastOf; rw [least32, show (Ieee.single.fractionBits : Int) = 23 from rfl]; omega
      rw [if_neg h0, hl, least32, binade32, inf32, show (-1074 : Int) - (-1074 + (D : Int)) = -(D : Int) by omega, rz_neg, show (-1074 + (D : Int) - -149).toNat = D - 925 by omega]
    rw [hr, ← htw]
    have hC0 : c * 2 ^ lostK Z ≠ 0 := Nat.mul_ne_zero (by omega) (by have := Nat.two_pow_pos (lostK Z); omega)
    rcases Nat.lt_or_ge c 9007199254740992 with k | k
    · have hlc : (c * 2 ^ lostK Z).log2 = Z.log2 := by
        rw [log2_mul_pow (by omega), hL, (Nat.log2_eq_iff (by omega)).2 ⟨show 2 ^ 52 ≤ c by omega, show c < 2 ^ 53 by omega⟩]
      unfold rungOf
      have hl : lastOf Ieee.single (c * 2 ^ lostK Z) (-1074) = -1074 + (D : Int) := by unfold lastOf; rw [least32, show (Ieee.single.fractionBits : Int) = 23 from rfl, hlc]; omega
      rw [if_neg hC0, hl, least32, binade32, inf32, show (-1074 : Int) - (-1074 + (D : Int)) = -(D : Int) by omega, rz_neg, show (-1074 + (D : Int) - -149).toNat = D - 925 by omega]
    · have hc1 : c = 2 ^ 53 := by omega
      have eC : c * 2 ^ lostK Z = 2 ^ (53 + lostK Z) := by rw [hc1, Nat.pow_add]
      have hlc : (c * 2 ^ lostK Z).log2 = Z.log2 + 1 := by rw [eC, Nat.log2_two_pow]; omega
      unfold rungOf
      rw [if_neg hC0]
      rcases Nat.lt_or_ge (Z.log2 - 23) 925 with j | j
      · have hl : lastOf Ieee.single (c * 2 ^ lostK Z) (-1074) = -1074 + (D : Int) := by unfold lastOf; rw [least32, show (Ieee.single.fractionBits : Int) = 23 from rfl, hlc]; omega
        rw [hl, least32, binade32, inf32, show (-1074 : Int) - (-1074 + (D : Int)) = -(D : Int) by omega, rz_neg, show (-1074 + (D : Int) - -149).toNat = D - 925 by omega]
      · have hl : lastOf Ieee.single (c * 2 ^ lostK Z) (-1074) = -1074 + ((D + 1 : Nat) : Int) := by unfold lastOf; rw [least32, show (Ieee.single.fractionBits : Int) = 23 from rfl, hlc]; omega
        rw [hl, least32, binade32, inf32, show (-1074 : Int) - (-1074 + ((D + 1 : Nat) : Int)) = -((D + 1 : Nat) : Int) by omega, rz_neg, show (-1074 + ((D + 1 : Nat) : Int) - -149).toNat = D + 1 - 925 by omega]
        have k1 : rne (c * 2 ^ lostK Z) (D + 1) = 8388608 := by
          rw [eC, show 53 + lostK Z = 23 + (D + 1) by omega, Nat.pow_add, rne_exact]
        have k2 : rne (c * 2 ^ lostK Z) D = 16777216 := by
          rw [eC, show 53 + lostK Z = 24 + D by omega, Nat.pow_add, rne_exact]
        rw [k1, k2, show (D + 1 - 925) * 8388608 + 8388608 = (D - 925) * 8388608 + 16777216 by omega]
/-- A word of binary64 made of a number, made narrow. -/
theorem told_twice {s : Bool} {Z : Nat} (hZ : Z.log2 ≤ 2000) (hmid : 0 < lostK Z → rne Z (lostK Z) * 2 ^ lostK Z % 2 ^ max (Z.log2 - 23) 925 = 2 ^ (max (Z.log2 - 23) 925 - 1) → rne Z (lostK Z) * 2 ^ lostK Z = Z) :
    toldD (some (Ieee.double.read (Ieee.double.word s (rungOf Ieee.double Z (-1074))))) = Ieee.single.word s (rungOf Ieee.single Z (-1074)) := by
  have hr : rungOf Ieee.double Z (-1074) < 9218868437227405312 := by
    rw [rung64_eq hZ]
    have := (kept_bd (M := Z)).1
    have : lostK Z ≤ 1948 := by unfold lostK; omega
    omega
  obtain ⟨a1, a2⟩ := sgn_word64 s (r := rungOf Ieee.double Z (-1074)) (by omega)
  rw [read_fin64 (by rw [a2]; exact hr), a1, a2, toldD_num, rung_word64, narrow_twice hZ hmid]
end Go.Proofs.Ytdempklpmggdoaa
/- What the reference's Plus and Minus return of whole numbers in memory. -/
namespace Go.Proofs.Ytdempklpmggdoaa
open Go.RowKit

/-- A new row of L digits, the first k of them those of v, the others 0. -/
structure Part (w wr : World) (L v k : Nat) : Prop where
  q : Q w wr
  row : wr.rowIs w.heap.size 27 L (fun j => .int .u32 (if j < k then (dig v j : Int) else 0))
theorem part_start (w : World) (L v : Nat) : Part w (w.alloc (.cells (madeCells #[.int .u32 0] L) 27)) L v 0 :=
  ⟨(Q.refl w).cells _ _, (World.rowIs_made w _ L 27).congr (fun j _ => by rw [if_neg (Nat.not_lt_zero _)])⟩
theorem part_step {w wr : World} {L v k : Nat} (h : Part w wr L v k) : Part w (wr.setCell ⟨w.heap.size, k, none⟩ (.int .u32 (dig v k))) L v (k + 1) := by
  refine ⟨h.q.set (Nat.le_refl _) _, (h.row.set k _).congr (fun j _ => ?_)⟩
  by_cases e : j = k
  · subst e; rw [if_pos rfl, if_pos (by omega)]
  · rw [if_neg e]
    by_cases g : j < k
    · rw [if_pos g, if_pos (by omega)]
    · rw [if_neg g, if_neg (by omega)]
theorem part_step' {w wr : World} {L v k : Nat} (h : Part w wr L v k) {x : Int} (e : x = dig v k) : Part w (wr.setCell ⟨w.heap.size, k, none⟩ (.int .u32 x)) L v (k + 1) := by
  rw [e]; exact part_step h
theorem part_done {w wr : World} {L v : Nat} (h : Part w wr L v L) (i : Nat) (hi : i < L) : wr.cell? ⟨w.heap.size, i, none⟩ = some (.int .u32 (dig v i)) := by
  rw [h.row.cell hi, if_pos hi]
theorem part_open {w wr : World} {L v k : Nat} (h : Part w wr L v k) (hk : k < L) : wr.cell? ⟨w.heap.size, k, none⟩ = some (.int .u32 0) := by
  rw [h.row.cell hk, if_neg (by omega)]

theorem and_mask (s : Int) (h0 : 0 ≤ s) (h1 : s ≤ 18446744073709551615) : bits .and .u64 s 4294967295 = s % 4294967296 := by go_bits2

theorem lt_pow_max {a b La Lb : Nat} (ha : a < 4294967296 ^ La) (hb : b < 4294967296 ^ Lb) : a + b < 4294967296 ^ (max La Lb + 1) := by
  have h1 : 4294967296 ^ La ≤ 4294967296 ^ (max La Lb) := Nat.pow_le_pow_right (by decide) (by omega)
  have h2 : 4294967296 ^ Lb ≤ 4294967296 ^ (max La Lb) := Nat.pow_le_pow_right (by decide) (by omega)
  rw [Nat.pow_succ]; omega

/-- One digit of a sum. -/
theorem sum_dig {a b k c : Nat} (h : (a + b) / 4294967296 ^ k = a / 4294967296 ^ k + b / 4294967296 ^ k + c) :
    (c + dig a k + dig b k) % 4294967296 = dig (a + b) k ∧
    (a + b) / 4294967296 ^ (k + 1) = a / 4294967296 ^ (k + 1) + b / 4294967296 ^ (k + 1) + (c + dig a k + dig b k) / 4294967296 := by
  rw [quo_succ, quo_succ, quo_succ]
  unfold dig
  generalize a / 4294967296 ^ k = x at *
  generalize b / 4294967296 ^ k = y at *
  generalize (a + b) / 4294967296 ^ k = z at *
  omega

theorem plus_rel {w wr : World} {M a b k c : Nat} (X : Int) (hX : X = ((c + dig a k + dig b k : Nat) : Int)) (hP : Part w wr M (a + b) k)
    (hQ : (c + dig a k + dig b k) % 4294967296 = dig (a + b) k ∧ (a + b) / 4294967296 ^ (k + 1) = a / 4294967296 ^ (k + 1) + b / 4294967296 ^ (k + 1) + (c + dig a k + dig b k) / 4294967296)
    (hk : k < M) (hc : c ≤ 1) :
    ∃ k' c' : Nat, k' ≤ M ∧ M - (k + 1) = M - k' ∧ Value.int .u64 (X / 4294967296) = .int .u64 c' ∧ Value.int .i64 ((k : Int) + 1) = .int .i64 k' ∧
      Part w (wr.setCell { block := w.heap.size, off := k } (.int .u32 (X % 4294967296))) M (a + b) k' ∧ (a + b) / 4294967296 ^ k' = a / 4294967296 ^ k' + b / 4294967296 ^ k' + c' ∧ c' ≤ 1 := by
  have h1 := dig_lt a k
  have h2 := dig_lt b k
  refine ⟨k + 1, (c + dig a k + dig b k) / 4294967296, by omega, rfl, by rw [hX]; rfl, by simp, part_step' hP (by rw [hX, ← hQ.1]; rfl), hQ.2, by omega⟩

end Go.Proofs.Ytdempklpmggdoaa
