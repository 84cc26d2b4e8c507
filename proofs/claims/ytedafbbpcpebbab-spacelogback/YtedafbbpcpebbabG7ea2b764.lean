/- Plain facts: a number rounded to binary32 lies as near as any sample; from 2^128 - 2^103 on it is an infinity. -/
import Derived.Test.YtedafbbpcpebbabG2d91871d
import Derived.Test.YtedafbbpcpebbabG277b288a
import Derived.Test.YtedafbbpcpebbabGe7e59e66
import Derived.Test.YtedafbbpcpebbabG301ff79c
import Derived.Test.YtedafbbpcpebbabG89ae185c
import Derived.Test.YtedafbbpcpebbabG4f019af0
namespace Go.Proofs.Ytedafbbpcpebbab
open Go.RowKit
set_option linter.unusedVariables false
set_option linter.unusedSimpArgs false

/-- A number's size in units of 2^-1074. -/
def zm (n : Nat) (e : Int) : Nat := n * 2 ^ (e + 1074).toNat
theorem zm_cut {n : Nat} {e b : Int} (hb : -1074 ≤ b) (h : b ≤ e) : zm n e = n * 2 ^ (e - b).toNat * 2 ^ (b + 1074).toNat := by
  unfold zm
  rw [Nat.mul_assoc, ← Nat.pow_add]
  congr 2
  omega
theorem zm_le {n k : Nat} {e f : Int} (he : -1074 ≤ e) (hf : -1074 ≤ f) : decide (n * 2 ^ (e - min e f).toNat ≤ k * 2 ^ (f - min e f).toNat) = decide (zm n e ≤ zm k f) := by
  rw [decide_eq_decide, zm_cut (b := min e f) (by omega) (by omega), zm_cut (e := f) (b := min e f) (by omega) (by omega)]
  exact (Nat.mul_le_mul_right_iff (Nat.two_pow_pos _)).symm
theorem rung_zm {n : Nat} {e : Int} (he : -1074 ≤ e) : rungOf Ieee.single n e = rungOf Ieee.single (zm n e) (-1074) := by
  unfold zm
  rw [rung_scale]
  congr 1
  omega
/-- How many digits are lost. -/
def lostZ (M : Nat) : Nat := max (M.log2 - 23) 925
theorem lastZ (M : Nat) : lastOf Ieee.single M (-1074) = -1074 + (lostZ M : Int) := by
  unfold lastOf lostZ; rw [least32, frac32]; omega
theorem kept_bdZ {M : Nat} : rne M (lostZ M) ≤ 16777216 ∧ (925 < lostZ M → 8388608 ≤ rne M (lostZ M)) := by
  have e3 : (-1074 : Int) - (-1074 + (lostZ M : Int)) = -(lostZ M : Int) := by omega
  have hk := kept_le Ieee.single M (-1074)
  rw [lastZ, e3, rz_neg, binade32] at hk
  refine ⟨hk, fun h => ?_⟩
  have hM : M ≠ 0 := by intro h0; subst h0; exact absurd h (by decide)
  have := le_kept Ieee.single hM (-1074) (by rw [lastZ, frac32]; unfold lostZ at *; omega)
  rw [lastZ, e3, rz_neg, binade32] at this
  exact this
theorem rungZ {M : Nat} (hM : M ≠ 0) : rungOf Ieee.single M (-1074) = min ((lostZ M - 925) * 8388608 + rne M (lostZ M)) 2139095040 := by
  unfold rungOf
  rw [if_neg hM, lastZ, least32, binade32, inf32, show (-1074 + (lostZ M : Int) - -149).toNat = lostZ M - 925 by unfold lostZ; omega, show (-1074 : Int) - (-1074 + (lostZ M : Int)) = -(lostZ M : Int) by omega, rz_neg]
theorem lostZ_ge (M : Nat) : 925 ≤ lostZ M := by unfold lostZ; omega
theorem valZ {M c : Nat} (hc : c = 925) (hM : M ≠ 0) (hr : rungOf Ieee.single M (-1074) < 2139095040) : val32 (rungOf Ieee.single M (-1074)) * 2 ^ c = rne M (lostZ M) * 2 ^ lostZ M := by
  rw [rungZ hM] at hr ⊢
  have h1 : (lostZ M - 925) * 8388608 + rne M (lostZ M) < 2139095040 := by omega
  rw [Nat.min_eq_left (by omega), val_of32 kept_bdZ.1 (fun h => kept_bdZ.2 (by omega)), Nat.mul_assoc, ← Nat.pow_add]
  congr 2
  have := lostZ_ge M
  omega
/-- It lies as near as any sample. -/
theorem bestZ {M c : Nat} (hc : c = 925) (hr : rungOf Ieee.single M (-1074) < 2139095040) (r : Nat) : (((val32 (rungOf Ieee.single M (-1074)) * 2 ^ c : Nat) : Int) - (M : Int)).natAbs ≤ (((val32 r * 2 ^ c : Nat) : Int) - (M : Int)).natAbs := by
  by_cases h0 : M = 0
  · subst h0
    rw [rungOf_zero, val_zero32, Nat.zero_mul]
    exact Nat.zero_le _
  · rw [valZ hc h0 hr]
    have hval : val32 r * 2 ^ c = mag32 r * 2 ^ (plc32 r + c) := by unfold val32; rw [Nat.mul_assoc, ← Nat.pow_add]
    rw [hval]
    obtain ⟨K, hK⟩ : ∃ K, K = lostZ M := ⟨_, rfl⟩
    rw [← hK]
    rcases Nat.lt_or_ge (plc32 r + c) K with h | h
    · have hl : 23 + K = M.log2 := by unfold lostZ at hK; omega
      have hm : 2 ^ (23 + K) ≤ M := by rw [hl]; exact Nat.log2_self_le h0
      have hv : mag32 r * 2 ^ (plc32 r + c) < 2 ^ (23 + K) := by
        have a1 : mag32 r * 2 ^ (plc32 r + c) < 2 ^ 24 * 2 ^ (plc32 r + c) := Nat.mul_lt_mul_of_pos_right (mag_lt32 r) (Nat.two_pow_pos _)
        rw [← Nat.pow_add] at a1
        exact Nat.lt_of_lt_of_le a1 (Nat.pow_le_pow_right (by decide) (by omega))
      have hb := rne_best M K (2 ^ 23)
      rw [← Nat.pow_add] at hb
      clear hc hval
      generalize 2 ^ (23 + K) = G at hm hv hb
      generalize mag32 r * 2 ^ (plc32 r + c) = V at hv ⊢
      generalize rne M K * 2 ^ K = W at hb ⊢
      omega
    · have e : mag32 r * 2 ^ (plc32 r + c) = mag32 r * 2 ^ (plc32 r + c - K) * 2 ^ K := by
        rw [Nat.mul_assoc, ← Nat.pow_add, show plc32 r + c - K + K = plc32 r + c by omega]
      rw [e]
      exact rne_best M K _
theorem rne_under {M k d : Nat} (h : 2 * M < (2 * k + 1) * 2 ^ d) : rne M d ≤ k := by
  obtain ⟨h1, _⟩ := rne_near M d
  have hp := Nat.two_pow_pos d
  rcases Nat.lt_or_ge k (rne M d) with g | g
  · have : (k + 1) * 2 ^ d ≤ rne M d * 2 ^ d := Nat.mul_le_mul_right _ g
    rw [Nat.add_mul, Nat.one_mul] at this
    rw [Nat.add_mul, Nat.one_mul, Nat.mul_assoc] at h
    generalize rne M d * 2 ^ d = A at *
    generalize k * 2 ^ d = B at *
    generalize 2 ^ d = C at *
    omega
  · exact g
/-- From 2^128 - 2^103 on it is an infinity, and not below. -/
theorem great_iff {M c : Nat} (hc : c = 1177) : decide (33554431 * 2 ^ c ≤ M) = decide (rungOf Ieee.single M (-1074) = 2139095040) := by
  rw [decide_eq_decide]
  have hle : ∀ M, rungOf Ieee.single M (-1074) ≤ 2139095040 := fun M => by have := rungOf_le Ieee.single M (-1074); rw [inf32] at this; exact this
  constructor
  · intro h
    have h1 := rung_mono Ieee.single (-1074) h
    have h2 : rungOf Ieee.single (33554431 * 2 ^ c) (-1074) = 2139095040 := by
      rw [rung_scale, hc]
      decide +kernel
    rw [h2] at h1
    exact Nat.le_antisymm (hle M) h1
  · intro h
    rcases Nat.lt_or_ge M (33554431 * 2 ^ c) with g | g
    · exfalso
      have hM : M ≠ 0 := fun e => by rw [e, rungOf_zero] at h; cases h
      have hl : M.log2 < 25 + c := (Nat.log2_lt hM).2 (Nat.lt_of_lt_of_le g (by rw [Nat.pow_add]; exact Nat.mul_le_mul_right _ (by decide)))
      have hK : lostZ M ≤ c + 1 := by unfold lostZ; omega
      rw [rungZ hM] at h
      rcases Nat.lt_or_ge (lostZ M) (c + 1) with k | k
      · have := (kept_bdZ (M := M)).1
        omega
      · have hKe : lostZ M = c + 1 := by omega
        have : rne M (c + 1) ≤ 16777215 := rne_under (by
          rw [Nat.pow_succ]
          generalize 2 ^ c = G at g ⊢
          omega)
        rw [hKe] at h
        omega
    · exact g
/-- An exact sum. -/
theorem signed_zm (s : Bool) (n j : Nat) : Ieee.signed s n j = if s = true then -((n * 2 ^ j : Nat) : Int) else ((n * 2 ^ j : Nat) : Int) := by
  unfold Ieee.signed; rw [Nat.shiftLeft_eq]
theorem plus_zs (s t : Bool) (n k : Nat) (e f : Int) (g h : Bool) (he : -1074 ≤ e) (hf : -1074 ≤ f) : ∃ σ N, plusR (.fin s n e g) (.fin t k f h) = .fin σ N (min e f) false ∧ zm N (min e f) = (Ieee.signed s n (e + 1074).toNat + Ieee.signed t k (f + 1074).toNat).natAbs ∧ (N ≠ 0 → σ = decide (Ieee.signed s n (e + 1074).toNat + Ieee.signed t k (f + 1074).toNat < 0)) := by
  obtain ⟨b, hb⟩ : ∃ b, b = min e f := ⟨_, rfl⟩
  obtain ⟨x, hx⟩ : ∃ x, x = n * 2 ^ (e - b).toNat := ⟨_, rfl⟩
  obtain ⟨y, hy⟩ : ∃ y, y = k * 2 ^ (f - b).toNat := ⟨_, rfl⟩
  have zx : n * 2 ^ (e + 1074).toNat = x * 2 ^ (b + 1074).toNat := by rw [hx]; exact zm_cut (b := b) (by omega) (by omega)
  have zy : k * 2 ^ (f + 1074).toNat = y * 2 ^ (b + 1074).toNat := by rw [hy]; exact zm_cut (b := b) (by omega) (by omega)
  have hp : plusR (.fin s n e g) (.fin t k f h) = plusFin s t x y b := by rw [hx, hy, hb]; rfl
  rw [hp, signed_zm, signed_zm, zx, zy, ← hb]
  clear hp hx hy zx zy hb
  generalize hG : 2 ^ (b + 1074).toNat = G
  have hG0 : 0 < G := by rw [← hG]; exact Nat.two_pow_pos _
  have hz : ∀ N, zm N b = N * G := fun N => by unfold zm; rw [hG]
  unfold plusFin
  have key : ∀ N, N ≠ 0 → 0 < N * G := fun N hN => Nat.mul_pos (by omega) hG0
  by_cases hst : s = t
  · subst hst
    rw [if_pos rfl]
    refine ⟨s, x + y, rfl, ?_, fun hN => ?_⟩
    · rw [hz, Nat.add_mul]; split <;> omega
    · have := key _ hN
      rw [Nat.add_mul] at this
      cases s
      · rw [if_neg (by decide), if_neg (by decide), eq_comm, decide_eq_false_iff_not]; omega
      · rw [if_pos rfl, if_pos rfl, eq_comm, decide_eq_true_iff]; omega
  · rw [if_neg hst]
    by_cases hxy : x = y
    · subst hxy
      rw [if_pos rfl]
      refine ⟨false, 0, rfl, ?_, fun hN => absurd rfl hN⟩
      rw [hz, Nat.zero_mul]
      cases s <;> cases t <;> simp at hst ⊢ <;> omega
    · rw [if_neg hxy]
      by_cases hlt : y < x
      · rw [if_pos hlt]
        have hm : y * G < x * G := Nat.mul_lt_mul_of_pos_right hlt hG0
        refine ⟨s, x - y, rfl, ?_, fun _ => ?_⟩
        · rw [hz, Nat.sub_mul]
          cases s <;> cases t <;> simp at hst ⊢ <;> omega
        · cases s <;> cases t <;> simp at hst ⊢ <;> omega
      · rw [if_neg hlt]
        have hm : x * G < y * G := Nat.mul_lt_mul_of_pos_right (by omega) hG0
        refine ⟨t, y - x, rfl, ?_, fun _ => ?_⟩
        · rw [hz, Nat.sub_mul]
          cases s <;> cases t <;> simp at hst ⊢ <;> omega
        · cases s <;> cases t <;> simp at hst ⊢ <;> omega
/-- How far a sample of the same sign lies away. -/
theorem away_zs (s : Bool) (n k : Nat) (e f : Int) (g h : Bool) (he : -1074 ≤ e) (hf : -1074 ≤ f) : ∃ σ N, plusR (.fin s n e g) (.fin (!s) k f h) = .fin σ N (min e f) false ∧ zm N (min e f) = ((zm k f : Int) - (zm n e : Int)).natAbs := by
  obtain ⟨σ, N, h1, h2, _⟩ := plus_zs s (!s) n k e f g h he hf
  refine ⟨σ, N, h1, ?_⟩
  rw [h2, signed_zm, signed_zm]
  unfold zm
  cases s <;> simp <;> omega
end Go.Proofs.Ytedafbbpcpebbab
/- Keys of samples as plain numbers; what Key and FromKey return. -/
namespace Go.Proofs.Ytedafbbpcpebbab
open Go.RowKit

def keyN (s : Nat) : Nat := if s < 2147483648 then s + 2147483648 else 4294967295 - s
def fkeyN (k : Nat) : Nat := if 2147483648 ≤ k then k - 2147483648 else 4294967295 - k
theorem keyN_lt {s : Nat} (h : s < 4294967296) : keyN s < 4294967296 := by unfold keyN; split <;> omega
theorem fkeyN_lt {s : Nat} (h : s < 4294967296) : fkeyN s < 4294967296 := by unfold fkeyN; split <;> omega
theorem keyV_N {s : Nat} (h : s < 4294967296) : keyV (s : Int) = (keyN s : Int) := by
  unfold keyN
  by_cases g : s < 2147483648
  · rw [keyV_lo (by omega), if_pos g]; omega
  · rw [keyV_hi (by omega), if_neg g]; omega
theorem keyN_inj {a b : Nat} (ha : a < 4294967296) (hb : b < 4294967296) (h : keyN a = keyN b) : a = b := by
  unfold keyN at h; split at h <;> split at h <;> omega
theorem fkey_key {s : Nat} (h : s < 4294967296) : fkeyN (keyN s) = s := by
  unfold keyN fkeyN; split <;> split <;> omega
theorem key_fkey {k : Nat} (h : k < 4294967296) : keyN (fkeyN k) = k := by
  unfold keyN fkeyN; split <;> split <;> omega

theorem not_hi (k : Int) (h0 : 2147483648 ≤ k) (h1 : k ≤ 4294967295) : bits .andNot .u32 k 2147483648 = k - 2147483648 := by go_bits2
set_option maxHeartbeats 400000 in
theorem fromkey_any (k : Nat) (h1 : k < 4294967296) (w : World) :
    Calls Try.prog 54 #[.int .u32 k] w fun e w' => e = .returned (.int .u32 (fkeyN k : Nat)) ∧ w' = w := by
  by_cases h : k < 2147483648
  · have e1 := and_lo k (by omega) (by omega)
    go_enter Try.func54, Try.ntmps54
    go_wp2
    go_ret
    exact ⟨ret_int (by unfold fkeyN; rw [if_neg (by omega)]; omega), rfl⟩
  · have e1 := and_hi k (by omega) (by omega)
    have e2 := not_hi k (by omega) (by omega)
    go_enter Try.func54, Try.ntmps54
    go_wp2
    go_ret
    exact ⟨ret_int (by unfold fkeyN; rw [if_pos (by omega)]; omega), rfl⟩
set_option maxHeartbeats 400000 in
theorem keyn_any (s : Nat) (h1 : s < 4294967296) (w : World) :
    Calls Try.prog 51 #[.int .u32 s] w fun e w' => e = .returned (.int .u32 (keyN s : Nat)) ∧ w' = w := by
  have := key_any s (by omega) (by omega) w
  rw [keyV_N h1] at this
  exact this
end Go.Proofs.Ytedafbbpcpebbab
/- Lifting: keys that go round; what Lift and Drop return, the program's and the document's. -/
namespace Go.Proofs.Ytedafbbpcpebbab
open Go.RowKit
set_option linter.unusedVariables false

/-- A half, rounded down, of a number that goes round 2^32. -/
def hlfN (d : Nat) : Nat := if d < 2147483648 then d / 2 else d / 2 + 2147483648
theorem hlfN_lt {d : Nat} (h : d < 4294967296) : hlfN d < 4294967296 := by unfold hlfN; split <;> omega
def addN (a b : Nat) : Nat := (a + b) % 4294967296
def lesN (a b : Nat) : Nat := (a + 4294967296 - b) % 4294967296
theorem addN_lt (a b : Nat) : addN a b < 4294967296 := Nat.mod_lt _ (by decide)
theorem lesN_lt (a b : Nat) : lesN a b < 4294967296 := Nat.mod_lt _ (by decide)
theorem addN_comm (a b : Nat) : addN a b = addN b a := by unfold addN; rw [Nat.add_comm]
theorem add_e (a b : Nat) : ((a : Int) + (b : Int)) % 4294967296 = (addN a b : Nat) := by unfold addN; omega
theorem sub_e (a b : Nat) (hb : b < 4294967296) : ((a : Int) - (b : Int)) % 4294967296 = (lesN a b : Nat) := by unfold lesN; omega
theorem add_h (a : Nat) : ((a : Int) + 2147483648) % 4294967296 = (addN a 2147483648 : Nat) := by unfold addN; omega
theorem sub_h (a : Nat) : ((a : Int) - 2147483648) % 4294967296 = (lesN a 2147483648 : Nat) := by unfold lesN; omega
theorem sp_drewN {a b : World} (h : Q a b) (n : Nat) : Q a (b.drewN n) := h.trans ⟨⟨rfl, rfl, rfl, Nat.le_refl _, fun _ _ => rfl⟩, fun _ => rfl⟩
set_option maxHeartbeats 400000 in
theorem halved_any (d : Nat) (hd : d < 4294967296) (w : World) : Calls Try.prog 53 #[.int .u32 (d : Int)] w fun e w' => e = .returned (.int .u32 (hlfN d : Nat)) ∧ w' = w := by
  go_enter Try.func53, Try.ntmps53
  go_wp2_with fail
  go_ret
  exact ⟨ret_int (by unfold hlfN wrap32; split <;> omega), rfl⟩
set_option maxHeartbeats 400000 in
theorem fromdiff_any (d : Nat) (hd : d < 4294967296) (w : World) : Calls Try.prog 55 #[.int .u32 (d : Int)] w fun e w' => e = .returned (.int .u32 (fkeyN (addN d 2147483648) : Nat)) ∧ w' = w := by
  have e1 := add_h d
  go_enter Try.func55, Try.ntmps55
  go_wp2_with fail
  refine (fromkey_any _ (addN_lt d 2147483648) _).mono ?_
  rintro e w1 ⟨rfl, rfl⟩
  go_wp2_with fail
  go_ret
  exact ⟨rfl, rfl⟩
set_option maxHeartbeats 400000 in
theorem differ_any (d : Nat) (hd : d < 4294967296) (w : World) : Calls Try.prog 52 #[.int .u32 (d : Int)] w fun e w' => e = .returned (.int .u32 (lesN (keyN d) 2147483648 : Nat)) ∧ w' = w := by
  have e1 := sub_h (keyN d)
  go_enter Try.func52, Try.ntmps52
  go_wp2_with fail
  refine (keyn_any _ hd _).mono ?_
  rintro e w1 ⟨rfl, rfl⟩
  go_wp2_with fail
  go_ret
  exact ⟨ret_int e1, rfl⟩
def lcoN (r b : Nat) : Nat := lesN (keyN r) (keyN b)
def ltN (r b : Nat) : Nat := addN (keyN b) (hlfN (lcoN r b))
def lcgN (r g b : Nat) : Nat := lesN (keyN g) (ltN r b)
def lyN (r g b : Nat) : Nat := addN (ltN r b) (hlfN (lcgN r g b))
def lift0 (r g b : Nat) : Nat := fkeyN (lyN r g b)
def lift1 (r g b : Nat) : Nat := fkeyN (addN (lcgN r g b) 2147483648)
def lift2 (r g b : Nat) : Nat := fkeyN (addN (lcoN r b) 2147483648)
def dfN (d : Nat) : Nat := lesN (keyN d) 2147483648
def dtN (y cg : Nat) : Nat := lesN (keyN y) (hlfN (dfN cg))
def dbN (y cg co : Nat) : Nat := lesN (dtN y cg) (hlfN (dfN co))
def drop0 (y cg co : Nat) : Nat := fkeyN (addN (dbN y cg co) (dfN co))
def drop1 (y cg co : Nat) : Nat := fkeyN (addN (dfN cg) (dtN y cg))
def drop2 (y cg co : Nat) : Nat := fkeyN (dbN y cg co)
def a3 (x y z : Nat) : Value := .agg #[.int .u32 (x : Nat), .int .u32 (y : Nat), .int .u32 (z : Nat)]
def t3 (x y z : Nat) : Value := .tuple #[.int .u32 (x : Nat), .int .u32 (y : Nat), .int .u32 (z : Nat)]
/-- A method's three samples in a box, and the box of its answer. -/
structure B3 (w wz : World) (r g b : Nat) : Prop where
  q : Q w wz
  d0 : wz.cell? ⟨w.heap.size + 1, 0, none⟩ = some (.int .u32 (r : Int))
  d1 : wz.cell? ⟨w.heap.size + 1, 1, none⟩ = some (.int .u32 (g : Int))
  d2 : wz.cell? ⟨w.heap.size + 1, 2, none⟩ = some (.int .u32 (b : Int))
  k0 : wz.cell? ⟨w.heap.size + 1 + 1, 0, none⟩ = some (.int .u32 0)
  k1 : wz.cell? ⟨w.heap.size + 1 + 1, 1, none⟩ = some (.int .u32 0)
  k2 : wz.cell? ⟨w.heap.size + 1 + 1, 2, none⟩ = some (.int .u32 0)
  f0 : wz.frozen? ⟨w.heap.size + 1 + 1, 0, none⟩ = false
  f1 : wz.frozen? ⟨w.heap.size + 1 + 1, 1, none⟩ = false
  f2 : wz.frozen? ⟨w.heap.size + 1 + 1, 2, none⟩ = false
theorem b3_of (w : World) (t : TypeId) (r g b : Nat) : B3 w (((w.alloc (Obj.cells #[] t)).alloc (Obj.cells #[.int .u32 (r : Int), .int .u32 (g : Int), .int .u32 (b : Int)] 59)).alloc (Obj.cells #[.int .u32 0, .int .u32 0, .int .u32 0] 59)) r g b where
  q := (((Q.refl w).cells _ _).cells _ _).cells _ _
  d0 := by simp [go_sem]
  d1 := by simp [go_sem]
  d2 := by simp [go_sem]
  k0 := by simp [go_sem]
  k1 := by simp [go_sem]
  k2 := by simp [go_sem]
  f0 := by simp [go_sem]
  f1 := by simp [go_sem]
  f2 := by simp [go_sem]
theorem B3.next {w wz w4 : World} {r g b : Nat} (h : B3 w wz r g b) (q : Q wz w4) : B3 w w4 r g b :=
  ⟨h.q.trans q, q.cell h.d0, q.cell h.d1, q.cell h.d2, q.cell h.k0, q.cell h.k1, q.cell h.k2, (q.2 _).trans h.f0, (q.2 _).trans h.f1, (q.2 _).trans h.f2⟩
set_option maxHeartbeats 2000000 in
theorem lfrom_any (r g b : Nat) (hr : r < 4294967296) (hg : g < 4294967296) (hb : b < 4294967296) (w : World) : Calls Try.prog 34 #[.agg #[], .agg #[.int .u32 (r : Int), .int .u32 (g : Int), .int .u32 (b : Int)]] w fun e w' => e = .returned (a3 (lift0 r g b) (lift1 r g b) (lift2 r g b)) ∧ Q w w' := by
  have e1 := sub_e (keyN r) (keyN b) (keyN_lt hb)
  have e2 := add_e (keyN b) (hlfN (lesN (keyN r) (keyN b)))
  have e3 := sub_e (keyN g) (addN (keyN b) (hlfN (lesN (keyN r) (keyN b)))) (addN_lt _ _)
  have e4 := add_e (addN (keyN b) (hlfN (lesN (keyN r) (keyN b)))) (hlfN (lesN (keyN g) (addN (keyN b) (hlfN (lesN (keyN r) (keyN b))))))
  have KV : Hid (∀ (s : Nat) (h : s < 4294967296) (w : World), Calls Try.prog 51 #[.int .u32 s] w fun e w' => e = .returned (.int .u32 (keyN s : Nat)) ∧ w' = w) := keyn_any
  go_enter Try.func34, Try.ntmps34
  go_wp2_with fail
  have hB : Hid (B3 w _ r g b) := b3_of w 61 r g b
  generalize (((w.alloc (Obj.cells #[] 61)).alloc (Obj.cells #[.int .u32 (r : Int), .int .u32 (g : Int), .int .u32 (b : Int)] 59)).alloc (Obj.cells #[.int .u32 0, .int .u32 0, .int .u32 0] 59)) = wz at hB ⊢
  have d0 := qw_cell hB.out.d0
  have d1 := qw_cell hB.out.d1
  have d2 := qw_cell hB.out.d2
  have n0 := qw_some wz
  refine wp_region_quiet_Q (by kernel_rfl) (by kernel_rfl) ?_
  repeat (first | go_big_quiet_step (first | (go_at_call 51; exact calls_qs (KV.out _ (by assumption) _))) | quiet_step (first | (go_at_call 51; exact calls_qs (KV.out _ (by assumption) _))))
  refine wpQuiet_nil ?_
  intro w4 hw'
  have hq4 := qw_out hw'
  clear hw' d0 d1 d2 n0 KV
  replace hB : Hid (B3 w w4 r g b) := hB.out.next hq4
  clear hq4
  go_wp2_with fail
  refine (halved_any _ (lesN_lt _ _) _).mono ?_
  rintro e w1 ⟨rfl, rfl⟩
  go_wp2_with fail
  refine (halved_any _ (lesN_lt _ _) _).mono ?_
  rintro e w1 ⟨rfl, rfl⟩
  go_wp2_with fail
  refine (fromkey_any _ (addN_lt _ _) _).mono ?_
  rintro e w1 ⟨rfl, rfl⟩
  go_wp2_with fail
  refine (fromdiff_any _ (lesN_lt _ _) _).mono ?_
  rintro e w1 ⟨rfl, rfl⟩
  go_wp2_with fail
  refine (fromdiff_any _ (lesN_lt _ _) _).mono ?_
  rintro e w1 ⟨rfl, rfl⟩
  have hk0 := hB.out.k0
  have hk1 := hB.out.k1
  have hk2 := hB.out.k2
  have hf0 := hB.out.f0
  have hf1 := hB.out.f1
  have hf2 := hB.out.f2
  go_wp2_with fail
  refine bodyPost_ret (v := a3 (lift0 r g b) (lift1 r g b) (lift2 r g b)) (by simp [results, Try.results34, go_sem, hk0, hk1, hk2, a3, lift0, lift1, lift2, lyN, ltN, lcgN, lcoN]) rfl ⟨rfl, ?_⟩
  exact ((hB.out.q.set (by show _ ≤ w.heap.size + 1 + 1; omega) _).set (by show _ ≤ w.heap.size + 1 + 1; omega) _).set (by show _ ≤ w.heap.size + 1 + 1; omega) _
set_option maxHeartbeats 2000000 in
theorem lto_any (r g b : Nat) (hr : r < 4294967296) (hg : g < 4294967296) (hb : b < 4294967296) (w : World) : Calls Try.prog 33 #[.agg #[], .agg #[.int .u32 (r : Int), .int .u32 (g : Int), .int .u32 (b : Int)]] w fun e w' => e = .returned (a3 (drop0 r g b) (drop1 r g b) (drop2 r g b)) ∧ Q w w' := by
  have e1 := sub_e (keyN r) (hlfN (lesN (keyN g) 2147483648)) (hlfN_lt (lesN_lt _ _))
  have e2 := sub_e (lesN (keyN r) (hlfN (lesN (keyN g) 2147483648))) (hlfN (lesN (keyN b) 2147483648)) (hlfN_lt (lesN_lt _ _))
  have e3 := add_e (lesN (lesN (keyN r) (hlfN (lesN (keyN g) 2147483648))) (hlfN (lesN (keyN b) 2147483648))) (lesN (keyN b) 2147483648)
  have e4 := add_e (lesN (keyN g) 2147483648) (lesN (keyN r) (hlfN (lesN (keyN g) 2147483648)))
  have KV : Hid (∀ (s : Nat) (h : s < 4294967296) (w : World), Calls Try.prog 51 #[.int .u32 s] w fun e w' => e = .returned (.int .u32 (keyN s : Nat)) ∧ w' = w) := keyn_any
  have DV : Hid (∀ (s : Nat) (h : s < 4294967296) (w : World), Calls Try.prog 52 #[.int .u32 s] w fun e w' => e = .returned (.int .u32 (lesN (keyN s) 2147483648 : Nat)) ∧ w' = w) := differ_any
  go_enter Try.func33, Try.ntmps33
  go_wp2_with fail
  have hB : Hid (B3 w _ r g b) := b3_of w 61 r g b
  generalize (((w.alloc (Obj.cells #[] 61)).alloc (Obj.cells #[.int .u32 (r : Int), .int .u32 (g : Int), .int .u32 (b : Int)] 59)).alloc (Obj.cells #[.int .u32 0, .int .u32 0, .int .u32 0] 59)) = wz at hB ⊢
  have d0 := qw_cell hB.out.d0
  have d1 := qw_cell hB.out.d1
  have d2 := qw_cell hB.out.d2
  have n0 := qw_some wz
  refine wp_region_quiet_Q (by kernel_rfl) (by kernel_rfl) ?_
  repeat (first | go_big_quiet_step (first | (go_at_call 51; exact calls_qs (KV.out _ (by assumption) _)) | (go_at_call 52; exact calls_qs (DV.out _ (by assumption) _))) | quiet_step (first | (go_at_call 51; exact calls_qs (KV.out _ (by assumption) _)) | (go_at_call 52; exact calls_qs (DV.out _ (by assumption) _))))
  refine wpQuiet_nil ?_
  intro w4 hw'
  have hq4 := qw_out hw'
  clear hw' d0 d1 d2 n0 KV DV
  replace hB : Hid (B3 w w4 r g b) := hB.out.next hq4
  clear hq4
  go_wp2_with fail
  refine (halved_any _ (lesN_lt _ _) _).mono ?_
  rintro e w1 ⟨rfl, rfl⟩
  go_wp2_with fail
  refine (halved_any _ (lesN_lt _ _) _).mono ?_
  rintro e w1 ⟨rfl, rfl⟩
  go_wp2_with fail
  refine (fromkey_any _ (addN_lt _ _) _).mono ?_
  rintro e w1 ⟨rfl, rfl⟩
  go_wp2_with fail
  refine (fromkey_any _ (addN_lt _ _) _).mono ?_
  rintro e w1 ⟨rfl, rfl⟩
  go_wp2_with fail
  refine (fromkey_any _ (lesN_lt _ _) _).mono ?_
  rintro e w1 ⟨rfl, rfl⟩
  have hk0 := hB.out.k0
  have hk1 := hB.out.k1
  have hk2 := hB.out.k2
  have hf0 := hB.out.f0
  have hf1 := hB.out.f1
  have hf2 := hB.out.f2
  go_wp2_with fail
  refine bodyPost_ret (v := a3 (drop0 r g b) (drop1 r g b) (drop2 r g b)) (by simp [results, Try.results33, go_sem, hk0, hk1, hk2, a3, drop0, drop1, drop2, dbN, dtN, dfN]) rfl ⟨rfl, ?_⟩
  exact ((hB.out.q.set (by show _ ≤ w.heap.size + 1 + 1; omega) _).set (by show _ ≤ w.heap.size + 1 + 1; omega) _).set (by show _ ≤ w.heap.size + 1 + 1; omega) _
set_option maxHeartbeats 1000000 in
theorem lift_any (r g b : Nat) (hr : r < 4294967296) (hg : g < 4294967296) (hb : b < 4294967296) (w : World) : Calls Try.prog 17 #[.int .u32 (r : Int), .int .u32 (g : Int), .int .u32 (b : Int)] w fun e w' => e = .returned (t3 (lift0 r g b) (lift1 r g b) (lift2 r g b)) ∧ Q w w' := by
  go_enter Try.func17, Try.ntmps17
  go_wp2_with fail
  refine (lfrom_any r g b hr hg hb _).mono ?_
  rintro e w1 ⟨rfl, q1⟩
  have HQ : Hid (Q w w1) := q1
  clear q1
  unfold a3
  go_wp2_with fail
  go_quiet (fail)
  have HZ : Hid (Q w ((w1.alloc (Obj.cells #[.int .u32 ((lift0 r g b : Nat) : Int), .int .u32 ((lift1 r g b : Nat) : Int), .int .u32 ((lift2 r g b : Nat) : Int)] 59)).drewN nq)) := sp_drewN (HQ.out.cells _ _) _
  generalize ((w1.alloc (Obj.cells #[.int .u32 ((lift0 r g b : Nat) : Int), .int .u32 ((lift1 r g b : Nat) : Int), .int .u32 ((lift2 r g b : Nat) : Int)] 59)).drewN nq) = wq at HZ ⊢
  go_wp2_with fail
  refine bodyPost_ret (v := t3 (lift0 r g b) (lift1 r g b) (lift2 r g b)) (by simp [results, Try.results17, go_sem, t3]) rfl ⟨rfl, HZ.out⟩
set_option maxHeartbeats 1000000 in
theorem drop_any (r g b : Nat) (hr : r < 4294967296) (hg : g < 4294967296) (hb : b < 4294967296) (w : World) : Calls Try.prog 16 #[.int .u32 (r : Int), .int .u32 (g : Int), .int .u32 (b : Int)] w fun e w' => e = .returned (t3 (drop0 r g b) (drop1 r g b) (drop2 r g b)) ∧ Q w w' := by
  go_enter Try.func16, Try.ntmps16
  go_wp2_with fail
  refine (lto_any r g b hr hg hb _).mono ?_
  rintro e w1 ⟨rfl, q1⟩
  have HQ : Hid (Q w w1) := q1
  clear q1
  unfold a3
  go_wp2_with fail
  go_quiet (fail)
  have HZ : Hid (Q w ((w1.alloc (Obj.cells #[.int .u32 ((drop0 r g b : Nat) : Int), .int .u32 ((drop1 r g b : Nat) : Int), .int .u32 ((drop2 r g b : Nat) : Int)] 59)).drewN nq)) := sp_drewN (HQ.out.cells _ _) _
  generalize ((w1.alloc (Obj.cells #[.int .u32 ((drop0 r g b : Nat) : Int), .int .u32 ((drop1 r g b : Nat) : Int), .int .u32 ((drop2 r g b : Nat) : Int)] 59)).drewN nq) = wq at HZ ⊢
  go_wp2_with fail
  refine bodyPost_ret (v := t3 (drop0 r g b) (drop1 r g b) (drop2 r g b)) (by simp [results, Try.results16, go_sem, t3]) rfl ⟨rfl, HZ.out⟩
theorem and_low32 (n : Int) : bits .and .i64 n 4294967295 = n % 4294967296 := by
  show IntKind.i64.wrap ((BitVec.ofInt 64 n &&& BitVec.ofInt 64 4294967295).toNat : Int) = _
  rw [BitVec.toNat_and, BitVec.toNat_ofInt, BitVec.toNat_ofInt, show ((4294967295 : Int) % ((2 ^ 64 : Nat) : Int)).toNat = 2 ^ 32 - 1 from by decide, Nat.and_two_pow_sub_one_eq_mod, IntKind.wrap_i64]
  omega
theorem tm_even {n : Int} (h : n % 2 = 0) : n.tmod 2 = 0 := Int.tmod_eq_zero_of_dvd (by omega)
theorem tm_odd {n : Int} (h : n % 2 = 1) : n.tmod 2 ≠ 0 := fun e => by have := Int.dvd_of_tmod_eq_zero e; omega
theorem td_even {n : Int} (h : n % 2 = 0) : n.tdiv 2 = n / 2 := by
  obtain ⟨k, rfl⟩ : ∃ k, n = 2 * k := ⟨n / 2, by omega⟩
  rw [Int.mul_tdiv_cancel_left _ (by decide)]; omega
end Go.Proofs.Ytedafbbpcpebbab
/- Arithmetic of binary64 whatever comes of it; what space's number, sample, Log and Exp return. -/
namespace Go.Proofs.Ytedafbbpcpebbab
open Go.RowKit
set_option linter.unusedVariables false

/-- A word that an operation tells, drawn where it has no answer; the world behind it. -/
def resW (op : BinOp) (x y : Nat) (w : World) : Nat := match floatBits op .f64 x y with
  | none => nanw .f64 x y w
  | some r => r
def resU (op : BinOp) (x y : Nat) (w : World) : World := match floatBits op .f64 x y with
  | none => w.drew
  | some r => w
theorem resU_q (op : BinOp) (x y : Nat) (w : World) : Q w (resU op x y w) := by
  unfold resU; split
  · exact (Q.refl w).drew
  · exact Q.refl w
theorem run_res (op : BinOp) (hop : op = .add ∨ op = .sub ∨ op = .mul ∨ op = .quo) (t : TypeId) (x y : Nat) (P : Program) (w : World) :
    (binOp op t (.float .f64 x) (.float .f64 y)).run P w = .ok (.float .f64 (resW op x y w)) (resU op x y w) := by
  unfold resW resU
  cases h : floatBits op .f64 x y with
  | none => exact run_arith_none op hop t .f64 x y h P w
  | some r => exact run_float_arith w op t .f64 x y r h
theorem same7 (x : Nat) (w : World) : (convert 44 44 (.float .f64 x)).run Try.prog w = .ok (.float .f64 x) w :=
  run_convert_float_float w 44 44 .f64 .f64 x x (by kernel_rfl) Try.underlying44 rfl
def opD : BinOp → Ieee.Datum → Ieee.Datum → Option Ieee.Datum
  | .add, a, b => a.sum b
  | .sub, a, b => a.sum b.opposite
  | .mul, a, b => a.product b
  | .quo, a, b => a.quotient 54 b
  | _, _, _ => none
theorem bits_op (op : BinOp) (hop : op = .add ∨ op = .sub ∨ op = .mul ∨ op = .quo) (x y : Nat) : floatBits op .f64 x y = (opD op (Ieee.double.read x) (Ieee.double.read y)).map Ieee.double.write := by
  rcases hop with rfl | rfl | rfl | rfl <;> rfl
theorem opD_num {op : BinOp} {a b d : Ieee.Datum} (h : opD op a b = some d) : d.isNaN = false := by
  unfold opD at h
  split at h
  · exact sum_num h
  · exact sum_num h
  · exact product_num h
  · exact quotient_num h
  · cases h
theorem can_res (op : BinOp) (hop : op = .add ∨ op = .sub ∨ op = .mul ∨ op = .quo) (x y : Nat) (w : World) : canW (resW op x y w) = told64 (opD op (Ieee.double.read x) (Ieee.double.read y)) := by
  unfold resW
  rw [bits_op op hop]
  cases h : opD op (Ieee.double.read x) (Ieee.double.read y) with
  | none => exact can_none x y w
  | some d => exact can_some (opD_num h)
theorem resW_lt (op : BinOp) (hop : op = .add ∨ op = .sub ∨ op = .mul ∨ op = .quo) (x y : Nat) (w : World) : resW op x y w < 18446744073709551616 := by
  unfold resW
  rw [bits_op op hop]
  cases h : opD op (Ieee.double.read x) (Ieee.double.read y) with
  | none => exact (nanw64 x y w).2
  | some d => exact write64_lt d
set_option maxHeartbeats 400000 in
theorem spnum_any (a : Nat) (ha : a < 4294967296) (w : World) : Calls Try.prog 22 #[.int .u32 (a : Int)] w fun e w' => e = .returned (.float .f64 (wideW a)) ∧ Q w w' := by
  have l1 := f64from
  go_enter Try.func22, Try.ntmps22
  go_wp2_with fail
  refine (cwide_any a ha _).mono ?_
  rintro e w1 ⟨rfl, q1⟩
  go_wp2_with fail
  go_ret
  exact ⟨by simp, q1⟩
def narW (x : Nat) : Nat := toldD (some (Ieee.double.read x))
set_option maxHeartbeats 400000 in
theorem spsam_any (x : Nat) (w : World) : Calls Try.prog 25 #[.float .f64 x] w fun e w' => e = .returned (.int .u32 (narW x : Nat)) ∧ Q w w' := by
  have l1 := f64bits
  go_enter Try.func25, Try.ntmps25
  go_wp2_with fail
  refine (cnarrow_any x _).mono ?_
  rintro e w1 ⟨rfl, q1⟩
  go_wp2_with fail
  go_ret
  exact ⟨rfl, q1⟩
end Go.Proofs.Ytedafbbpcpebbab
