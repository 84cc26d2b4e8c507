/- Plain facts: rounding to binary64 and then to binary32 does not show where no half-way number lies near. -/
import Derived.Test.YtpoilgiplhogjaaGe4dbecf6
import Derived.Test.YtpoilgiplhogjaaG5583f6ff
namespace Go.Proofs.Ytpoilgiplhogjaa
open Go.RowKit

theorem up_not {M D : Nat} (h : 2 * (M % 2 ^ D) < 2 ^ D) : rne M D = M / 2 ^ D := by
  unfold rne
  have : ¬ goesUp M D := by unfold goesUp; omega
  rw [if_neg this, Nat.add_zero]
theorem up_yes {M D : Nat} (h : 2 ^ D < 2 * (M % 2 ^ D)) : rne M D = M / 2 ^ D + 1 := by
  unfold rne
  rw [if_pos (show goesUp M D from Or.inl h)]
/-- Rounded twice. -/
theorem twice_gen {M K D : Nat} (hKD : K + 1 ≤ D) (hmid : rne M K * 2 ^ K % 2 ^ D = 2 ^ (D - 1) → rne M K * 2 ^ K = M) : rne (rne M K * 2 ^ K) D = rne M D := by
  obtain ⟨n1, n2⟩ := rne_near M K
  obtain ⟨c, hc⟩ : ∃ c, c = rne M K := ⟨_, rfl⟩
  rw [← hc] at n1 n2 hmid ⊢
  by_cases hCM : c * 2 ^ K = M
  · rw [hCM]
  have hno : c * 2 ^ K % 2 ^ D ≠ 2 ^ (D - 1) := fun h => hCM (hmid h)
  obtain ⟨i, hi⟩ : ∃ i, D = K + 1 + i := ⟨D - K - 1, by omega⟩
  have eU : 2 ^ D = 2 * 2 ^ i * 2 ^ K := by
    rw [hi, show K + 1 + i = 1 + i + K by omega, Nat.pow_add, Nat.pow_add, Nat.pow_one]
  have eH : 2 ^ (D - 1) = 2 ^ i * 2 ^ K := by rw [hi, show K + 1 + i - 1 = i + K by omega, Nat.pow_add]
  have hE := Nat.two_pow_pos K
  have hh := Nat.two_pow_pos i
  have et : c * 2 ^ K % 2 ^ D = c % (2 * 2 ^ i) * 2 ^ K := by rw [eU, Nat.mul_mod_mul_right]
  have hτ : c % (2 * 2 ^ i) < 2 * 2 ^ i := Nat.mod_lt _ (by omega)
  rw [et, eH] at hno
  have hτn : c % (2 * 2 ^ i) ≠ 2 ^ i := fun h => hno (by rw [h])
  have dC := Nat.div_add_mod (c * 2 ^ K) (2 ^ D)
  have dM := Nat.div_add_mod M (2 ^ D)
  have bM := Nat.mod_lt M (show 0 < 2 ^ D by rw [eU]; exact Nat.mul_pos (by omega) hE)
  -- how the rest lies
  have ht : 2 * (c * 2 ^ K % 2 ^ D) + 2 * 2 ^ K ≤ 2 ^ D ∨ (2 ^ D + 2 * 2 ^ K ≤ 2 * (c * 2 ^ K % 2 ^ D) ∧ c * 2 ^ K % 2 ^ D + 2 ^ K ≤ 2 ^ D) := by
    rw [et, eU]
    rcases Nat.lt_or_ge (c % (2 * 2 ^ i)) (2 ^ i) with g | g
    · left
      have := Nat.mul_le_mul_right (2 ^ K) (show c % (2 * 2 ^ i) + 1 ≤ 2 ^ i from g)
      rw [Nat.add_mul, Nat.one_mul] at this
      rw [Nat.mul_assoc 2]
      omega
    · right
      have h1 := Nat.mul_le_mul_right (2 ^ K) (show 2 ^ i + 1 ≤ c % (2 * 2 ^ i) by omega)
      have h2 := Nat.mul_le_mul_right (2 ^ K) (show c % (2 * 2 ^ i) + 1 ≤ 2 * 2 ^ i from hτ)
      rw [Nat.add_mul, Nat.one_mul] at h1 h2
      rw [Nat.mul_assoc 2] at h2 ⊢
      omega
  obtain ⟨U, hU⟩ : ∃ U, U = 2 ^ D := ⟨_, rfl⟩
  obtain ⟨E, hEe⟩ : ∃ E, E = 2 ^ K := ⟨_, rfl⟩
  obtain ⟨C, hC⟩ : ∃ C, C = c * 2 ^ K := ⟨_, rfl⟩
  have r1 := up_not (M := C) (D := D)
  have r2 := up_yes (M := C) (D := D)
  have r3 := up_not (M := M) (D := D)
  have r4 := up_yes (M := M) (D := D)
  rw [← hC] at n1 n2 dC ht ⊢
  rw [← hEe] at n1 n2 ht hE
  rw [← hU] at dC dM bM ht r1 r2 r3 r4
  obtain ⟨q, hq⟩ : ∃ q, q = C / U := ⟨_, rfl⟩
  obtain ⟨t, htt⟩ : ∃ t, t = C % U := ⟨_, rfl⟩
  obtain ⟨a, haa⟩ : ∃ a, a = M / U := ⟨_, rfl⟩
  obtain ⟨b, hbb⟩ : ∃ b, b = M % U := ⟨_, rfl⟩
  rw [← hq, ← htt] at dC
  rw [← haa, ← hbb] at dM
  rw [← htt] at ht
  rw [← hq, ← htt] at r1 r2
  rw [← haa, ← hbb] at r3 r4
  rw [← hbb] at bM
  rcases Nat.lt_trichotomy a q with g | g | g
  · -- one below
    obtain ⟨z, hz⟩ : ∃ z, q = a + 1 + z := ⟨q - a - 1, by omega⟩
    have e1 : U * q = U * a + U + U * z := by rw [hz, Nat.mul_add, Nat.mul_add, Nat.mul_one]
    have hz0 : z = 0 := by
      rcases Nat.eq_zero_or_pos z with k | k
      · exact k
      · have : U * 1 ≤ U * z := Nat.mul_le_mul_left _ k
        omega
    rw [hz0, Nat.mul_zero] at e1
    rcases ht with ht | ⟨ht, ht2⟩
    · rw [r1 (by omega), r4 (by omega)]; omega
    · omega
  · rw [g] at dM
    rcases ht with ht | ⟨ht, ht2⟩
    · rw [r1 (by omega), r3 (by omega), g]
    · rw [r2 (by omega), r4 (by omega), g]
  · obtain ⟨z, hz⟩ : ∃ z, a = q + 1 + z := ⟨a - q - 1, by omega⟩
    have e1 : U * a = U * q + U + U * z := by rw [hz, Nat.mul_add, Nat.mul_add, Nat.mul_one]
    rcases ht with ht | ⟨ht, ht2⟩ <;> omega

/-- To binary64, then to binary32. -/
theorem narrow_twice {Z : Nat} (hZ : Z.log2 ≤ 2000) (hmid : 0 < lostK Z → rne Z (lostK Z) * 2 ^ lostK Z % 2 ^ max (Z.log2 - 23) 925 = 2 ^ (max (Z.log2 - 23) 925 - 1) → rne Z (lostK Z) * 2 ^ lostK Z = Z) :
    rungOf Ieee.single (val64 (rungOf Ieee.double Z (-1074))) (-1074) = rungOf Ieee.single Z (-1074) := by
  rcases Nat.eq_zero_or_pos (lostK Z) with g | g
  · rw [vN_div hZ (by rw [g]; exact Nat.one_dvd _)]
  · rw [vN_eq hZ]
    have hL : Z.log2 = 52 + lostK Z := by unfold lostK at *; omega
    have h0 : Z ≠ 0 := by intro h0; rw [h0] at g; exact absurd g (by decide)
    obtain ⟨D, hD⟩ : ∃ D, D = max (Z.log2 - 23) 925 := ⟨_, rfl⟩
    have htw := twice_gen (M := Z) (K := lostK Z) (D := D) (by omega) (by rw [hD]; exact hmid g)
    obtain ⟨b1, b2⟩ := kept_bd (M := Z)
    have b2 := b2 g
    obtain ⟨c, hc⟩ : ∃ c, c = rne Z (lostK Z) := ⟨_, rfl⟩
    rw [← hc] at htw b1 b2 ⊢
    have hr : rungOf Ieee.single Z (-1074) = min ((D - 925) * 8388608 + rne Z D) 2139095040 := by
      unfold rungOf
      have hl : lastOf Ieee.single Z (-1074) = -1074 + (D : Int) := by unfold lastOf; rw [least32, show (Ieee.single.fractionBits : Int) = 23 from rfl]; omega
      rw [if_neg h0, hl, least32, binade32, inf32, show (-1074 : Int) - (-1074 + (D : Int)) = -(D : Int) by omega, rz_neg, show (-1074 + (D : Int) - -149).toNat = D - 925 by omega]
    rw [hr, ← htw]
    have hC0 : c * 2 ^ lostK Z ≠ 0 := Nat.mul_ne_zero (by omega) (by have := Nat.two_pow_pos (lostK Z); omega)
    rcases Nat.lt_or_ge c 9007199254740992 with k | k
    · have hlc : (c * 2 ^ lostK Z).log2 = Z.log2 := by
        rw [log2_mul_pow (by omega), hL, (Nat.log2_eq_iff (by omega)).2 ⟨show 2 ^ 52 ≤ c by omega, show c < 2 ^ 53 by omega⟩]
      unfold rungOf
      have hl : lastOf Ieee.single (c * 2 ^ lostK Z) (-1074) = -1074 + (D : Int) := by unfold lastOf; rw [least32, show (Ieee.single.fractionBits : Int) = 23 from rfl, hlc]; omega
      rw [if_neg hC0, hl, least32, binade32, inf32, show (-1074 : Int) - (-1074 + (D : Int)) = -(D : Int) by omega, rz_neg, show (-1074 + (D : Int) - -149).toNat = D - 925 by omega]
    · have hc1 : c = 2 ^ 53 := by omega
      have eC : c * 2 ^ lostK Z = 2 ^ (53 + lostK Z) := by rw [hc1, Nat.pow_add]
      have hlc : (c * 2 ^ lostK Z).log2 = Z.log2 + 1 := by rw [eC, Nat.log2_two_pow]; omega
      unfold rungOf
      rw [if_neg hC0]
      rcases Nat.lt_or_ge (Z.log2 - 23) 925 with j | j
      · have hl : lastOf Ieee.single (c * 2 ^ lostK Z) (-1074) = -1074 + (D : Int) := by unfold lastOf; rw [least32, show (Ieee.single.fractionBits : Int) = 23 from rfl, hlc]; omega
        rw [hl, least32, binade32, inf32, show (-1074 : Int) - (-1074 + (D : Int)) = -(D : Int) by omega, rz_neg, show (-1074 + (D : Int) - -149).toNat = D - 925 by omega]
      · have hl : lastOf Ieee.single (c * 2 ^ lostK Z) (-1074) = -1074 + ((D + 1 : Nat) : Int) := by unfold lastOf; rw [least32, show (Ieee.single.fractionBits : Int) = 23 from rfl, hlc]; omega
        rw [hl, least32, binade32, inf32, show (-1074 : Int) - (-1074 + ((D + 1 : Nat) : Int)) = -((D + 1 : Nat) : Int) by omega, rz_neg, show (-1074 + ((D + 1 : Nat) : Int) - -149).toNat = D + 1 - 925 by omega]
        have k1 : rne (c * 2 ^ lostK Z) (D + 1) = 8388608 := by
          rw [eC, show 53 + lostK Z = 23 + (D + 1) by omega, Nat.pow_add, rne_exact]
        have k2 : rne (c * 2 ^ lostK Z) D = 16777216 := by
          rw [eC, show 53 + lostK Z = 24 + D by omega, Nat.pow_add, rne_exact]
        rw [k1, k2, show (D + 1 - 925) * 8388608 + 8388608 = (D - 925) * 8388608 + 16777216 by omega]
/-- A word of binary64 made of a number, made narrow. -/
theorem told_twice {s : Bool} {Z : Nat} (hZ : Z.log2 ≤ 2000) (hmid : 0 < lostK Z → rne Z (lostK Z) * 2 ^ lostK Z % 2 ^ max (Z.log2 - 23) 925 = 2 ^ (max (Z.log2 - 23) 925 - 1) → rne Z (lostK Z) * 2 ^ lostK Z = Z) :
    toldD (some (Ieee.double.read (Ieee.double.word s (rungOf Ieee.double Z (-1074))))) = Ieee.single.word s (rungOf Ieee.single Z (-1074)) := by
  have hr : rungOf Ieee.double Z (-1074) < 9218868437227405312 := by
    rw [rung64_eq hZ]
    have := (kept_bd (M := Z)).1
    have : lostK Z ≤ 1948 := by unfold lostK; omega
    omega
  obtain ⟨a1, a2⟩ := sgn_word64 s (r := rungOf Ieee.double Z (-1074)) (by omega)
  rw [read_fin64 (by rw [a2]; exact hr), a1, a2, toldD_num, rung_word64, narrow_twice hZ hmid]
end Go.Proofs.Ytpoilgiplhogjaa
/- What the reference's PlusNum returns: the exact sum. -/
namespace Go.Proofs.Ytpoilgiplhogjaa
open Go.RowKit

/-- The exact sum. -/
def plusFin (s t : Bool) (x y : Nat) (b : Int) : RNum :=
  if s = t then .fin s (x + y) b false
  else if x = y then .fin false 0 b false
  else if y < x then .fin s (x - y) b false
  else .fin t (y - x) b false
def plusR : RNum → RNum → RNum
  | ⟨none⟩, _ => .nan
  | ⟨some (.inl _)⟩, ⟨none⟩ => .nan
  | ⟨some (.inr _)⟩, ⟨none⟩ => .nan
  | ⟨some (.inl s)⟩, ⟨some (.inl t)⟩ => if s = t then .inf s else .nan
  | ⟨some (.inl s)⟩, ⟨some (.inr _)⟩ => .inf s
  | ⟨some (.inr _)⟩, ⟨some (.inl t)⟩ => .inf t
  | ⟨some (.inr (s, n, e, _))⟩, ⟨some (.inr (t, m, f, _))⟩ => plusFin s t (n * 2 ^ (e - min e f).toNat) (m * 2 ^ (f - min e f).toNat) (min e f)
/-- Numbers that PlusNum takes. -/
def small : RNum → Prop
  | ⟨some (.inr (_, n, e, _))⟩ => blen n ≤ 2000 ∧ -2000 ≤ e ∧ e ≤ 2000
  | _ => True

/-- The cells that PlusNum reads and writes behind the shifts. -/
structure PBox (w wc : World) (s t : Bool) : Prop where
  q : Q w wc
  a1 : wc.cell? ⟨w.heap.size, 1, none⟩ = some (.bool s)
  b1 : wc.cell? ⟨w.heap.size + 1, 1, none⟩ = some (.bool t)
  r : Res5 wc (w.heap.size + 1 + 1)
theorem PBox.next {w wc wd : World} {s t : Bool} (h : PBox w wc s t) (q : Q wc wd) : PBox w wd s t :=
  ⟨h.q.trans q, q.cell h.a1, q.cell h.b1, h.r.next q⟩

set_option maxHeartbeats 4000000 in
set_option maxRecDepth 1000000 in
theorem plus_odd (va vb : Value) (x y : RNum) (w : World) (hx : NumAt w va x) (hy : NumAt w vb y) (hne : ∀ s n e m t k f g, ¬ (x = .fin s n e m ∧ y = .fin t k f g)) :
    Calls Try.prog 11 #[va, vb] w fun e w' => ∃ v, e = .returned v ∧ NumAt w' v (plusR x y) ∧ Q w w' := by
  cases x using RNum.rec3 with
  | nan =>
    obtain ⟨b, e, m, rfl⟩ := hx
    obtain ⟨k, s, p, L, C, ee, mm, rfl⟩ := hy.made
    clear hy hne
    go_enter Try.func11, Try.ntmps11
    go_wp2_with fail
    refine bodyPost_ret (v := .agg #[.int .i64 0, .bool false, .slice none 0 0, .int .i64 0, .bool false]) (by simp [results, Try.results11, go_sem]) rfl ⟨_, rfl, ⟨_, _, _, rfl⟩, ?_⟩
    exact (((Q.refl w).cells _ _).cells _ _).cells _ _
  | inf s =>
    obtain ⟨e, m, rfl⟩ := hx
    cases y using RNum.rec3 with
    | nan =>
      obtain ⟨b, e', m', rfl⟩ := hy
      go_enter Try.func11, Try.ntmps11
      go_wp2_with fail
      refine bodyPost_ret (v := .agg #[.int .i64 0, .bool false, .slice none 0 0, .int .i64 0, .bool false]) (by simp [results, Try.results11, go_sem]) rfl ⟨_, rfl, ⟨_, _, _, rfl⟩, ?_⟩
      exact (((Q.refl w).cells _ _).cells _ _).cells _ _
    | inf t =>
      obtain ⟨e', m', rfl⟩ := hy
      clear hne
      cases s <;> cases t
      · go_enter Try.func11, Try.ntmps11
        go_wp2_with fail
        refine bodyPost_ret (v := .agg #[.int .i64 1, .bool false, .slice none 0 0, .int .i64 e, .bool m]) (by simp [results, Try.results11, go_sem]) rfl ⟨_, rfl, ⟨_, _, rfl⟩, ?_⟩
        exact (((Q.refl w).cells _ _).cells _ _).cells _ _
      · go_enter Try.func11, Try.ntmps11
        go_wp2_with fail
        refine bodyPost_ret (v := .agg #[.int .i64 0, .bool false, .slice none 0 0, .int .i64 0, .bool false]) (by simp [results, Try.results11, go_sem]) rfl ⟨_, rfl, ⟨_, _, _, rfl⟩, ?_⟩
        exact (((Q.refl w).cells _ _).cells _ _).cells _ _
      · go_enter Try.func11, Try.ntmps11
        go_wp2_with fail
        refine bodyPost_ret (v := .agg #[.int .i64 0, .bool false, .slice none 0 0, .int .i64 0, .bool false]) (by simp [results, Try.results11, go_sem]) rfl ⟨_, rfl, ⟨_, _, _, rfl⟩, ?_⟩
        exact (((Q.refl w).cells _ _).cells _ _).cells _ _
      · go_enter Try.func11, Try.ntmps11
        go_wp2_with fail
        refine bodyPost_ret (v := .agg #[.int .i64 1, .bool true, .slice none 0 0, .int .i64 e, .bool m]) (by simp [results, Try.results11, go_sem]) rfl ⟨_, rfl, ⟨_, _, rfl⟩, ?_⟩
        exact (((Q.refl w).cells _ _).cells _ _).cells _ _
    | fin t k f g =>
      obtain ⟨nv, rfl, p, b, L, C, rfl, hn⟩ := hy
      clear hne
      go_enter Try.func11, Try.ntmps11
      go_wp2_with fail
      refine bodyPost_ret (v := .agg #[.int .i64 1, .bool s, .slice none 0 0, .int .i64 e, .bool m]) (by simp [results, Try.results11, go_sem]) rfl ⟨_, rfl, ⟨_, _, rfl⟩, ?_⟩
      exact (((Q.refl w).cells _ _).cells _ _).cells _ _
  | fin s n e m =>
    obtain ⟨nv, rfl, p, b, L, C, rfl, hn⟩ := hx
    cases y using RNum.rec3 with
    | nan =>
      obtain ⟨b', e', m', rfl⟩ := hy
      clear hne
      go_enter Try.func11, Try.ntmps11
      go_wp2_with fail
      refine bodyPost_ret (v := .agg #[.int .i64 0, .bool false, .slice none 0 0, .int .i64 0, .bool false]) (by simp [results, Try.results11, go_sem]) rfl ⟨_, rfl, ⟨_, _, _, rfl⟩, ?_⟩
      exact (((Q.refl w).cells _ _).cells _ _).cells _ _
    | inf t =>
      obtain ⟨e', m', rfl⟩ := hy
      clear hne
      go_enter Try.func11, Try.ntmps11
      go_wp2_with fail
      refine bodyPost_ret (v := .agg #[.int .i64 1, .bool t, .slice none 0 0, .int .i64 e', .bool m']) (by simp [results, Try.results11, go_sem]) rfl ⟨_, rfl, ⟨_, _, rfl⟩, ?_⟩
      exact (((Q.refl w).cells _ _).cells _ _).cells _ _
    | fin t k f g => exact absurd ⟨rfl, rfl⟩ (hne s n e m t k f g)

theorem far2 (w : World) : w.heap.size ≤ w.heap.size + 1 + 1 := by omega
theorem far3 (w : World) : (⟨w.heap.size, 1, none⟩ : Addr).block ≠ w.heap.size + 1 + 1 := by show w.heap.size ≠ _; omega
theorem far4 (w : World) : (⟨w.heap.size + 1, 1, none⟩ : Addr).block ≠ w.heap.size + 1 + 1 := by show w.heap.size + 1 ≠ _; omega
theorem add_cap {x y : Nat} (hx : x < 2 ^ 6000) (hy : y < 2 ^ 6000) : x + y < cap := by
  obtain ⟨j, hj⟩ : ∃ j, j = 6000 := ⟨_, rfl⟩
  rw [← hj] at hx hy
  exact lt_cap (k := j + 1) (by rw [Nat.pow_succ]; omega) (by omega)
theorem shifted_lt {k : Nat} (n d : Nat) (h : blen n + d ≤ k) : n * 2 ^ d < 2 ^ k := by
  have h1 : n * 2 ^ d < 2 ^ blen n * 2 ^ d := Nat.mul_lt_mul_of_pos_right (blen_lt n) (Nat.two_pow_pos d)
  rw [← Nat.pow_add] at h1
  exact Nat.lt_of_lt_of_le h1 (Nat.pow_le_pow_right (by decide) h)

set_option maxHeartbeats 8000000 in
set_option maxRecDepth 1000000 in
theorem plus_fin (s t m m' : Bool) (va vb : Value) (n k : Nat) (e f : Int) (w : World) (hn : NatAt w va n) (hk : NatAt w vb k)
    (n1 : blen n ≤ 2000) (e0 : -2000 ≤ e) (e1 : e ≤ 2000) (k1 : blen k ≤ 2000) (f0 : -2000 ≤ f) (f1 : f ≤ 2000) :
    Calls Try.prog 11 #[.agg #[.int .i64 2, .bool s, va, .int .i64 e, .bool m], .agg #[.int .i64 2, .bool t, vb, .int .i64 f, .bool m']] w
      fun x w' => ∃ v, x = .returned v ∧ NumAt w' v (plusFin s t (n * 2 ^ (e - min e f).toNat) (k * 2 ^ (f - min e f).toNat) (min e f)) ∧ Q w w' := by
  obtain ⟨b, hb⟩ : ∃ b, b = min e f := ⟨_, rfl⟩
  rw [← hb]
  obtain ⟨da, hda⟩ : ∃ da : Nat, da = (e - b).toNat := ⟨_, rfl⟩
  obtain ⟨db, hdb⟩ : ∃ db : Nat, db = (f - b).toNat := ⟨_, rfl⟩
  rw [← hda, ← hdb]
  have ea : e - b = (da : Int) := by omega
  have eb : f - b = (db : Int) := by omega
  have b0 : -2000 ≤ b := by omega
  have b1 : b ≤ 2000 := by omega
  have hda4 : da ≤ 4000 := by omega
  have hdb4 : db ≤ 4000 := by omega
  have wa : IntKind.i64.wrap (da : Int) = (da : Int) := by rw [IntKind.wrap_i64]; omega
  have wb : IntKind.i64.wrap (db : Int) = (db : Int) := by rw [IntKind.wrap_i64]; omega
  have hcx := shifted_lt (k := 6000) n da (by omega)
  have hcy := shifted_lt (k := 6000) k db (by omega)
  obtain ⟨X, hX⟩ : ∃ X, X = n * 2 ^ da := ⟨_, rfl⟩
  obtain ⟨Y, hY⟩ : ∃ Y, Y = k * 2 ^ db := ⟨_, rfl⟩
  have hcap1 : Hid (n * 2 ^ da < cap) := lt_cap hcx (by decide)
  have hcap2 : Hid (k * 2 ^ db < cap) := lt_cap hcy (by decide)
  have hcap3 : Hid (X + Y < cap) := by
    show X + Y < cap
    rw [hX, hY]
    exact add_cap hcx hcy
  rw [← hX, ← hY]
  have HX : Hid _ := hX
  have HY : Hid _ := hY
  have HBM : Hid _ := hb
  clear hcx hcy hX hY hda hdb
  obtain ⟨pa, ba, La, Ca, rfl, hnI⟩ := hn
  obtain ⟨pb, bb, Lb, Cb, rfl, hkI⟩ := hk
  have HNA : Hid (NatAt w (.slice pa La Ca) n) := ⟨pa, ba, La, Ca, rfl, hnI⟩
  have HKA : Hid (NatAt w (.slice pb Lb Cb) k) := ⟨pb, bb, Lb, Cb, rfl, hkI⟩
  clear hnI hkI hb
  go_enter Try.func11, Try.ntmps11
  go_upto_region 7 with fail
  go_cut [5] from 9 (fun s5 wc => s5 = .int .i64 b ∧ wc.cell? ⟨w.heap.size, 2, none⟩ = some (.slice pa La Ca) ∧ wc.cell? ⟨w.heap.size, 3, none⟩ = some (.int .i64 e) ∧ wc.cell? ⟨w.heap.size + 1, 2, none⟩ = some (.slice pb Lb Cb) ∧ wc.cell? ⟨w.heap.size + 1, 3, none⟩ = some (.int .i64 f) ∧ PBox w wc s t)
  case first =>
    go_wp2_with fail
    all_goals
      go_meet
      case rel =>
        go_light
        refine ⟨congrArg (Value.int .i64) (by have := HBM.out; omega), by simp [go_sem], by simp [go_sem], by simp [go_sem], by simp [go_sem], (((Q.refl w).cells _ _).cells _ _).cells _ _, by simp [go_sem], by simp [go_sem], ⟨by simp [go_sem], by simp [go_sem], by simp [go_sem], by simp [go_sem], by simp [go_sem], fun i => by simp [go_sem]⟩⟩
  case rest =>
    obtain ⟨rfl, a2, a3, c2, c3, hB⟩ := hcut
    go_upto_region 8 with fail
    go_cut [6, 7] from 9 (fun s6 s7 wd => NatAt wd s6 X ∧ NatAt wd s7 Y ∧ PBox w wd s t)
    case first =>
      go_region_held3 (fun w' => w'.cell? ⟨w.heap.size, 2, none⟩ = some (.slice pa La Ca) ∧ w'.cell? ⟨w.heap.size, 3, none⟩ = some (.int .i64 e) ∧ w'.cell? ⟨w.heap.size + 1, 2, none⟩ = some (.slice pb Lb Cb) ∧ w'.cell? ⟨w.heap.size + 1, 3, none⟩ = some (.int .i64 f)) (first | (refine ⟨?_, ?_, ?_, ?_⟩ <;> assumption) | (simp [a2, a3, c2, c3]; done) | go_keep) (first | (go_at_call_of 42 (Value.slice pa La Ca); refine (up_any _ n da _ (Q.nat hB.q.drew HNA.out) hcap1.out).mono ?_; rintro x w1 ⟨v1, rfl, hv1, q1⟩; have g2 := q1.cell (p := ⟨w.heap.size, 2, none⟩) a2; have g3 := q1.cell (p := ⟨w.heap.size, 3, none⟩) a3; have g4 := q1.cell (p := ⟨w.heap.size + 1, 2, none⟩) c2; have g5 := q1.cell (p := ⟨w.heap.size + 1, 3, none⟩) c3) | (go_at_call_of 42 (Value.slice pb Lb Cb); refine (up_any _ k db _ (Q.nat (hB.q.drew.trans q1) HKA.out) hcap2.out).mono ?_; rintro x w2 ⟨v2, rfl, hv2, q2⟩; have h2 := q2.cell g2; have h3 := q2.cell g3; have h4 := q2.cell g4; have h5 := q2.cell g5))
      all_goals
        go_wp2_with fail
        go_meet
        case rel =>
          go_light
          exact ⟨by rw [HX.out]; exact q2.nat hv1, by rw [HY.out]; exact hv2, ((hB.next (Q.refl _).drew).next q1).next q2⟩
    case rest =>
      obtain ⟨h6, h7, hB2⟩ := hcut
      have a1 := hB2.a1
      have b1 := hB2.b1
      have H6 : Hid _ := h6
      have H7 : Hid _ := h7
      clear ea eb wa wb a2 a3 c2 c3 h6 h7
      cases hst : (s == t)
      · have hne : s ≠ t := by simpa using hst
        go_wp2_with fail
        refine (compare_any _ _ X Y _ H6.out H7.out).mono ?_
        rintro x w3 ⟨rfl, q3⟩
        have hB3 := hB2.next q3
        have a1 := hB3.a1
        have b1 := hB3.b1
        have J6 : Hid _ := q3.nat H6.out
        have J7 : Hid _ := q3.nat H7.out
        clear hB2
        rcases Nat.lt_trichotomy X Y with hc | hc | hc
        · have ec : cmpV X Y = -1 := by unfold cmpV; rw [if_pos hc]
          rw [ec]
          have HC : Hid _ := hc
          clear ec hc
          go_wp2_with fail
          go_region_with (first | (go_at_call 46; refine (minus_any _ _ Y X _ (Q.nat (Q.refl _).drew J7.out) (Q.nat (Q.refl _).drew J6.out) (Nat.lt_of_le_of_lt (Nat.le_add_left _ _) hcap3.out) (Nat.le_of_lt HC.out)).mono ?_; rintro x w4 ⟨v4, rfl, hv4, q4⟩; obtain ⟨p4, b4, L4, C4, rfl, hI4⟩ := hv4; have n1 := q4.cell (p := ⟨w.heap.size + 1, 1, none⟩) b1; have R := hB3.r.next ((Q.refl _).drew.trans q4); have d0 := R.c0; have d1 := R.c1; have d2 := R.c2; have d3 := R.c3; have d4 := R.c4; have y0 := R.z 0; have y1 := R.z 1; have y2 := R.z 2; have y3 := R.z 3; have y4 := R.z 4))
          all_goals
            go_wp2_with fail
            refine bodyPost_ret (v := .agg #[.int .i64 2, .bool t, .slice p4 L4 C4, .int .i64 b, .bool false]) (by simp [results, Try.results11, go_sem, d0, d1, d2, d3, d4]) rfl ⟨_, rfl, ?_, ?_⟩
            · rw [show plusFin s t X Y b = .fin t (Y - X) b false from by have := HC.out; unfold plusFin; rw [if_neg hne, if_neg (by omega), if_neg (by omega)]]
              exact ⟨_, rfl, natAt_but ⟨p4, b4, L4, C4, rfl, hI4⟩ d0 (fun a ha => by repeat rw [set_but _ ha])⟩
            · exact ((((((hB3.q.drew).trans q4).set (far2 w) _).set (far2 w) _).set (far2 w) _).set (far2 w) _).set (far2 w) _
        · have ec : cmpV X Y = 0 := by unfold cmpV; rw [if_neg (by omega), if_pos hc]
          rw [ec]
          have HC : Hid _ := hc
          clear ec hc
          have d0 := hB3.r.c0
          have d1 := hB3.r.c1
          have d2 := hB3.r.c2
          have d3 := hB3.r.c3
          have d4 := hB3.r.c4
          have y0 := hB3.r.z 0
          have y1 := hB3.r.z 1
          have y2 := hB3.r.z 2
          have y3 := hB3.r.z 3
          have y4 := hB3.r.z 4
          go_wp2_with fail
          refine bodyPost_ret (v := .agg #[.int .i64 2, .bool false, .slice none 0 0, .int .i64 b, .bool false]) (by simp [results, Try.results11, go_sem, d0, d1, d2, d3, d4]) rfl ⟨_, rfl, ?_, ?_⟩
          · rw [show plusFin s t X Y b = .fin false 0 b false from by unfold plusFin; rw [if_neg hne, if_pos HC.out]]
            exact ⟨_, rfl, nat_nil _⟩
          · exact ((((hB3.q.set (far2 w) _).set (far2 w) _).set (far2 w) _).set (far2 w) _).set (far2 w) _
        · have ec : cmpV X Y = 1 := by unfold cmpV; rw [if_neg (by omega), if_neg (by omega)]
          rw [ec]
          have HC : Hid _ := hc
          clear ec hc
          go_wp2_with fail
          go_region_with (first | (go_at_call 46; refine (minus_any _ _ X Y _ (Q.nat (Q.refl _).drew J6.out) (Q.nat (Q.refl _).drew J7.out) (Nat.lt_of_le_of_lt (Nat.le_add_right _ _) hcap3.out) (Nat.le_of_lt HC.out)).mono ?_; rintro x w4 ⟨v4, rfl, hv4, q4⟩; obtain ⟨p4, b4, L4, C4, rfl, hI4⟩ := hv4; have n1 := q4.cell (p := ⟨w.heap.size, 1, none⟩) a1; have R := hB3.r.next ((Q.refl _).drew.trans q4); have d0 := R.c0; have d1 := R.c1; have d2 := R.c2; have d3 := R.c3; have d4 := R.c4; have y0 := R.z 0; have y1 := R.z 1; have y2 := R.z 2; have y3 := R.z 3; have y4 := R.z 4))
          all_goals
            go_wp2_with fail
            refine bodyPost_ret (v := .agg #[.int .i64 2, .bool s, .slice p4 L4 C4, .int .i64 b, .bool false]) (by simp [results, Try.results11, go_sem, d0, d1, d2, d3, d4]) rfl ⟨_, rfl, ?_, ?_⟩
            · rw [show plusFin s t X Y b = .fin s (X - Y) b false from by have := HC.out; unfold plusFin; rw [if_neg hne, if_neg (by omega), if_pos this]]
              exact ⟨_, rfl, natAt_but ⟨p4, b4, L4, C4, rfl, hI4⟩ d0 (fun a ha => by repeat rw [set_but _ ha])⟩
            · exact ((((((hB3.q.drew).trans q4).set (far2 w) _).set (far2 w) _).set (far2 w) _).set (far2 w) _).set (far2 w) _
      · have heq : s = t := by simpa using hst
        subst heq
        clear hst
        go_wp2_with fail
        go_region_with (first | (go_at_call 43; refine (plus_any _ _ X Y _ (Q.nat (Q.refl _).drew H6.out) (Q.nat (Q.refl _).drew H7.out) hcap3.out).mono ?_; rintro x w4 ⟨v4, rfl, hv4, q4⟩; obtain ⟨p4, b4, L4, C4, rfl, hI4⟩ := hv4; have n1 := q4.cell (p := ⟨w.heap.size, 1, none⟩) a1; have R := hB2.r.next ((Q.refl _).drew.trans q4); have d0 := R.c0; have d1 := R.c1; have d2 := R.c2; have d3 := R.c3; have d4 := R.c4; have y0 := R.z 0; have y1 := R.z 1; have y2 := R.z 2; have y3 := R.z 3; have y4 := R.z 4))
        all_goals
          go_wp2_with fail
          refine bodyPost_ret (v := .agg #[.int .i64 2, .bool s, .slice p4 L4 C4, .int .i64 b, .bool false]) (by simp [results, Try.results11, go_sem, d0, d1, d2, d3, d4]) rfl ⟨_, rfl, ?_, ?_⟩
          · rw [show plusFin s s X Y b = .fin s (X + Y) b false from by unfold plusFin; rw [if_pos rfl]]
            exact ⟨_, rfl, natAt_but ⟨p4, b4, L4, C4, rfl, hI4⟩ d0 (fun a ha => by repeat rw [set_but _ ha])⟩
          · exact ((((((hB2.q.drew).trans q4).set (far2 w) _).set (far2 w) _).set (far2 w) _).set (far2 w) _).set (far2 w) _

theorem plusnum_any (va vb : Value) (x y : RNum) (w : World) (hx : NumAt w va x) (hy : NumAt w vb y) (sx : small x) (sy : small y) :
    Calls Try.prog 11 #[va, vb] w fun e w' => ∃ v, e = .returned v ∧ NumAt w' v (plusR x y) ∧ Q w w' := by
  cases x using RNum.rec3 with
  | fin s n e m =>
    cases y using RNum.rec3 with
    | fin t k f g =>
      obtain ⟨nv, rfl, hn⟩ := hx
      obtain ⟨kv, rfl, hk⟩ := hy
      exact plus_fin s t m g nv kv n k e f w hn hk sx.1 sx.2.1 sx.2.2 sy.1 sy.2.1 sy.2.2
    | nan => exact plus_odd va vb _ _ w hx hy (fun _ _ _ _ _ _ _ _ h => by cases h.2)
    | inf t => exact plus_odd va vb _ _ w hx hy (fun _ _ _ _ _ _ _ _ h => by cases h.2)
  | nan => exact plus_odd va vb _ _ w hx hy (fun _ _ _ _ _ _ _ _ h => by cases h.1)
  | inf s => exact plus_odd va vb _ _ w hx hy (fun _ _ _ _ _ _ _ _ h => by cases h.1)
end Go.Proofs.Ytpoilgiplhogjaa
