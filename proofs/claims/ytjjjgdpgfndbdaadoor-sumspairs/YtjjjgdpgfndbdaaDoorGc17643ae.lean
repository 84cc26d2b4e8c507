/- What the reference's Bits, Compare and Times return of whole numbers in memory. -/
import Derived.Test.YtjjjgdpgfndbdaaDoorGafca0475
import Derived.RegionTactic
import Derived.ChangeAlike
import Derived.Test.YtjjjgdpgfndbdaaDoorGfa37ff8b
namespace Go.Proofs.YtjjjgdpgfndbdaaDoor
open Go.RowKit

/-- How many bits a number has. -/
def blen (n : Nat) : Nat := if n = 0 then 0 else n.log2 + 1
theorem blen_half {n : Nat} (h : 0 < n) : blen (n / 2) + 1 = blen n := by
  unfold blen
  rw [if_neg (by omega : ¬ n = 0)]
  by_cases h1 : n = 1
  · subst h1; decide
  · rw [if_neg (by omega : ¬ n / 2 = 0)]
    rw [Nat.log2_def n, if_pos (by omega)]
theorem blen_lt (n : Nat) : n < 2 ^ blen n := by
  unfold blen
  by_cases h : n = 0
  · rw [if_pos h, h]; decide
  · rw [if_neg h]; exact Nat.lt_log2_self
theorem blen_le {n k : Nat} (h : n < 2 ^ k) : blen n ≤ k := by
  unfold blen
  by_cases h0 : n = 0
  · rw [if_pos h0]; omega
  · rw [if_neg h0]
    exact (Nat.log2_lt h0).2 h
theorem blen_shift (n k : Nat) (h : 2 ^ k ≤ n) : blen n = k + blen (n / 2 ^ k) := by
  have hp := Nat.two_pow_pos k
  have h1 : n / 2 ^ k ≠ 0 := by
    have := (Nat.le_div_iff_mul_le hp).2 (show 1 * 2 ^ k ≤ n by omega)
    omega
  unfold blen
  rw [if_neg (by omega), if_neg h1]
  have : n.log2 = k + (n / 2 ^ k).log2 := by
    refine (Nat.log2_eq_iff (by omega)).2 ⟨?_, ?_⟩
    · have := Nat.log2_self_le h1
      rw [Nat.le_div_iff_mul_le hp, ← Nat.pow_add, Nat.add_comm] at this
      exact this
    · have : n / 2 ^ k < 2 ^ ((n / 2 ^ k).log2 + 1) := Nat.lt_log2_self
      rw [Nat.div_lt_iff_lt_mul hp, ← Nat.pow_add] at this
      rw [show k + (n / 2 ^ k).log2 + 1 = (n / 2 ^ k).log2 + 1 + k by omega]
      exact this
  omega

set_option maxHeartbeats 800000 in
theorem bits_any (va : Value) (n : Nat) (w : World) (ha : NatAt w va n) :
    Calls Tryd.prog 81 #[va] w fun e w' => e = .returned (.int .i64 (blen n : Int)) ∧ w' = w := by
  obtain ⟨pa, ba, La, Ca, rfl, ha⟩ := ha
  have hlen := ha.len
  rcases Nat.eq_zero_or_pos La with rfl | hpos
  · have h0 := ha.pos.2 rfl
    subst h0
    go_enter Tryd.func81, Tryd.ntmps81
    go_wp2
    go_ret
    exact ⟨rfl, rfl⟩
  · obtain ⟨j, rfl⟩ : ∃ j, La = j + 1 := ⟨La - 1, by omega⟩
    obtain rfl := ha.ptr hpos
    have cj := ha.cell j (by omega)
    have hd := dig_lt n j
    have hne : (((j + 1 : Nat) : Int) == 0) = false := by simp; omega
    have h0 : 32 * j + blen (dig n j) = blen n := by
      have h1 := ha.lo hpos
      rw [show j + 1 - 1 = j by omega, base_pow] at h1
      have h2 : dig n j = n / 2 ^ (32 * j) := by
        unfold dig
        rw [Nat.mod_eq_of_lt, base_pow]
        rw [Nat.div_lt_iff_lt_mul (Nat.pow_pos (by decide)), Nat.mul_comm, ← Nat.pow_succ]
        exact ha.hi
      rw [h2]; exact (blen_shift n _ h1).symm
    have H0 : Hid _ := h0
    clear h0
    go_enter Tryd.func81, Tryd.ntmps81
    go_wp2
    go_loopg [3, 4] (blen (dig n j)) (fun g s3 s4 wr => wr = w ∧ ∃ m x : Nat, s3 = .int .i64 m ∧ s4 = .int .u32 x ∧ g = blen x ∧ m + blen x = blen n ∧ x < 4294967296 ∧ m ≤ 32 * j + 32)
    case atStart => exact ⟨rfl, 32 * j, dig n j, by simp, rfl, rfl, H0.out, hd, by omega⟩
    case round =>
      obtain ⟨rfl, m, x, rfl, rfl, rfl, hm, hx, hmj⟩ := hrel
      have HM : Hid _ := hm
      clear hm
      by_cases h : x = 0
      · subst h
        go_wp2
        go_ret
        exact ⟨ret_int (by have := HM.out; rw [← this]; simp [blen]), rfl⟩
      · have hz : (0 : Int) < (x : Int) := by omega
        have hb := blen_half (n := x) (by omega)
        have hle : blen x ≤ 32 := blen_le hx
        have HB : Hid _ := hb
        clear hb
        go_wp2
        go_roundg (blen (x / 2))
        case measure => go_light; have := HB.out; omega
        case rel =>
          go_light
          have := HB.out
          have := HM.out
          have hcap : blen n ≤ 32 * j + 32 := blen_le (by
            have h1 := ha.hi
            rw [base_pow, Nat.mul_add] at h1
            exact h1)
          exact ⟨rfl, m + 1, x / 2, by simp, by simp, rfl, by omega, by omega, by omega⟩

/-- -1, 0, 1. -/
def cmpV (a b : Nat) : Int := if a < b then -1 else if a = b then 0 else 1

theorem cmp_step {a b j : Nat} (h : a / 4294967296 ^ (j + 1) = b / 4294967296 ^ (j + 1)) :
    (dig a j = dig b j → a / 4294967296 ^ j = b / 4294967296 ^ j) ∧ (dig a j < dig b j → a < b) ∧ (dig b j < dig a j → b < a) := by
  rw [quo_succ, quo_succ] at h
  unfold dig
  refine ⟨fun e => by omega, fun e => ?_, fun e => ?_⟩
  · rcases Nat.lt_or_ge a b with g | g
    · exact g
    · have := Nat.div_le_div_right (c := 4294967296 ^ j) g
      omega
  · rcases Nat.lt_or_ge b a with g | g
    · exact g
    · have := Nat.div_le_div_right (c := 4294967296 ^ j) g
      omega

theorem len_lt {w : World} {p q : Option Addr} {ba bb La Lb a b : Nat} (ha : NatIs w p ba La a) (hb : NatIs w q bb Lb b) (h : La < Lb) : a < b := by
  have h1 := ha.hi
  have h2 := hb.lo (by omega)
  have h3 : 4294967296 ^ La ≤ 4294967296 ^ (Lb - 1) := Nat.pow_le_pow_right (by decide) (by omega)
  omega

set_option maxHeartbeats 1600000 in
theorem compare_any (va vb : Value) (a b : Nat) (w : World) (ha : NatAt w va a) (hb : NatAt w vb b) :
    Calls Tryd.prog 97 #[va, vb] w fun e w' => e = .returned (.int .i64 (cmpV a b)) ∧ Q w w' := by
  obtain ⟨pa, ba, La, Ca, rfl, ha⟩ := ha
  obtain ⟨pb, bb, Lb, Cb, rfl, hb⟩ := hb
  have hla := ha.len
  have hlb := hb.len
  rcases Nat.lt_trichotomy La Lb with h | h | h
  · have h1 : ((La : Int) != (Lb : Int)) = true := by simp; omega
    have h2 : (La : Int) < (Lb : Int) := by omega
    have e : cmpV a b = -1 := by unfold cmpV; rw [if_pos (len_lt ha hb h)]
    rw [e]
    go_enter Tryd.func97, Tryd.ntmps97
    go_wp2
    go_ret
    exact ⟨rfl, Q.refl w⟩
  · subst h
    go_enter Tryd.func97, Tryd.ntmps97
    go_wp2
    go_loopg [5] La (fun g s5 wr => Q w wr ∧ ((g = 0 ∧ s5 = .int .i64 (-1) ∧ a = b) ∨ ∃ j : Nat, g = j + 1 ∧ s5 = .int .i64 j ∧ j < La ∧ a / 4294967296 ^ (j + 1) = b / 4294967296 ^ (j + 1)))
    case atStart =>
      refine ⟨Q.refl w, ?_⟩
      rcases Nat.eq_zero_or_pos La with h0 | h0
      · exact Or.inl ⟨h0, congrArg (Value.int .i64) (by omega), by rw [ha.pos.2 h0, hb.pos.2 h0]⟩
      · exact Or.inr ⟨La - 1, by omega, congrArg (Value.int .i64) (by omega), by omega, by rw [show La - 1 + 1 = La by omega, quo_end ha.hi, quo_end hb.hi]⟩
    case round =>
      obtain ⟨hQ, ⟨rfl, rfl, rfl⟩ | ⟨j, rfl, rfl, hj, hab⟩⟩ := hrel
      · go_wp2
        go_ret
        exact ⟨ret_int (by unfold cmpV; rw [if_neg (by omega), if_pos rfl]), hQ⟩
      · have hjz : (0 : Int) ≤ (j : Int) := by omega
        obtain rfl := ha.ptr (by omega)
        obtain rfl := hb.ptr (by omega)
        have ca := hQ.cell (ha.cell j hj)
        have cb := hQ.cell (hb.cell j hj)
        have HS : Hid _ := cmp_step hab
        clear hab
        by_cases hd : dig a j = dig b j
        · have h1 : ((dig a j : Int) != (dig b j : Int)) = false := by rw [hd]; simp
          go_wp2
          go_region
          all_goals
            go_wp2
            go_roundg j
            case measure => go_light; omega
            case rel =>
              go_light
              refine ⟨hQ.drew, ?_⟩
              have hq := HS.out.1 hd
              rcases Nat.eq_zero_or_pos j with h0 | h0
              · subst h0
                rw [quo_zero, quo_zero] at hq
                exact Or.inl ⟨rfl, by simp, hq⟩
              · exact Or.inr ⟨j - 1, by omega, congrArg (Value.int .i64) (by omega), by omega, by rw [show j - 1 + 1 = j by omega]; exact hq⟩
        · have h1 : ((dig a j : Int) != (dig b j : Int)) = true := by simp; omega
          rcases Nat.lt_or_ge (dig a j) (dig b j) with hl | hl
          · have h2 : (dig a j : Int) < (dig b j : Int) := by omega
            go_wp2
            go_region
            all_goals
              go_wp2
              go_region
              all_goals
                go_wp2
                go_ret
                exact ⟨ret_int (by have := HS.out.2.1 hl; unfold cmpV; rw [if_pos this]), hQ.drew.drew⟩
          · have h2 : ¬ (dig a j : Int) < (dig b j : Int) := by omega
            go_wp2
            go_region
            all_goals
              go_wp2
              go_region
              all_goals
                go_wp2
                go_ret
                exact ⟨ret_int (by have := HS.out.2.2 (by omega); unfold cmpV; rw [if_neg (by omega), if_neg (by omega)]), hQ.drew.drew⟩
  · have h1 : ((La : Int) != (Lb : Int)) = true := by simp; omega
    have h2 : ¬ (La : Int) < (Lb : Int) := by omega
    have e : cmpV a b = 1 := by have := len_lt hb ha h; unfold cmpV; rw [if_neg (by omega), if_neg (by omega)]
    rw [e]
    go_enter Tryd.func97, Tryd.ntmps97
    go_wp2
    go_ret
    exact ⟨rfl, Q.refl w⟩

/-- One digit of a product. -/
theorem mul_dig {a m k c : Nat} (h : a * m / 4294967296 ^ k = a / 4294967296 ^ k * m + c) :
    (dig a k * m + c) % 4294967296 = dig (a * m) k ∧ a * m / 4294967296 ^ (k + 1) = a / 4294967296 ^ (k + 1) * m + (dig a k * m + c) / 4294967296 := by
  rw [quo_succ, quo_succ]
  unfold dig
  rw [h]
  generalize a / 4294967296 ^ k = x
  have e : x * m = 4294967296 * (x / 4294967296 * m) + x % 4294967296 * m := by
    rw [← Nat.mul_assoc, ← Nat.add_mul, Nat.div_add_mod]
  generalize x / 4294967296 * m = u at *
  generalize x % 4294967296 * m = v at *
  omega
theorem mul_carry {x m c : Nat} (hx : x < 4294967296) (hm : m < 4294967296) (hc : c < 4294967296) : x * m ≤ 18446744065119617025 ∧ (x * m + c) / 4294967296 < 4294967296 := by
  have := Nat.mul_le_mul (show x ≤ 4294967295 by omega) (show m ≤ 4294967295 by omega)
  omega
theorem part_last {w wr : World} {L v : Nat} (h : Part w wr (L + 1) v L) {x : Int} (e : x = dig v L) : Part w (wr.setCell ⟨w.heap.size, L, none⟩ (.int .u32 x)) (L + 1) v (L + 1) := part_step' h e

set_option maxHeartbeats 1600000 in
theorem times_any (va : Value) (a m : Nat) (w : World) (ha : NatAt w va a) (hm : m < 4294967296) (hs : a < cap) :
    Calls Tryd.prog 88 #[va, .int .u32 m] w fun e w' => ∃ v, e = .returned v ∧ NatAt w' v (a * m) ∧ Q w w' := by
  obtain ⟨pa, ba, La, Ca, rfl, ha⟩ := ha
  have hla := ha.len_cap hs
  have hmz : ((La : Int) + 1) = ((La + 1 : Nat) : Int) := by omega
  have hmk := run_make_row' (P := Tryd.prog) 78 25 (.int .u32 0) 4 Tryd.underlying78 info_u32 rfl .i64 .i64 (La + 1) (by omega) (by omega)
  rw [← hmz] at hmk
  clear hmz
  have HL : Hid (a * m < 4294967296 ^ (La + 1)) := by
    show a * m < 4294967296 ^ (La + 1)
    rw [Nat.pow_succ]
    exact Nat.mul_lt_mul_of_lt_of_lt ha.hi hm
  have q0 : a * m / 4294967296 ^ 0 = a / 4294967296 ^ 0 * m + 0 := by rw [quo_zero, quo_zero]; rfl
  go_enter Tryd.func88, Tryd.ntmps88
  go_wp2
  clear hmk
  go_loopg [6, 7] La (fun g s6 s7 wr => ∃ k c : Nat, k ≤ La ∧ g = La - k ∧ s6 = .int .u64 c ∧ s7 = .int .i64 k ∧ Part w wr (La + 1) (a * m) k ∧ a * m / 4294967296 ^ k = a / 4294967296 ^ k * m + c ∧ c < 4294967296)
  case atStart => exact ⟨0, 0, Nat.zero_le _, rfl, rfl, rfl, part_start w (La + 1) _, q0, by decide⟩
  case round =>
    obtain ⟨k, c, hk, rfl, rfl, rfl, hP, hq, hc⟩ := hrel
    by_cases hkL : k < La
    · have hkz : (k : Int) < (La : Int) := by omega
      have hkz2 : (k : Int) < (La : Int) + 1 := by omega
      obtain rfl := ha.ptr (by omega)
      have ca := hP.q.cell (ha.cell k hkL)
      have hd := dig_lt a k
      have f1 := part_open hP (by omega)
      have f2 := hP.row.frozen k
      have hS := mul_dig hq
      have hC := mul_carry hd hm hc
      obtain ⟨X, hX⟩ : ∃ X, X = dig a k * m := ⟨_, rfl⟩
      rw [← hX] at hS hC
      have hw : (dig a k : Int) * (m : Int) = (X : Int) := by rw [hX, Int.natCast_mul]
      have hmask := and_mask ((X : Int) + c) (by omega) (by omega)
      have HS : Hid _ := hS
      have HX : Hid _ := hX
      clear hS hX hq q0
      go_wp2
      go_roundg (La - (k + 1))
      case measure => go_light; omega
      case rel =>
        go_light
        exact ⟨k + 1, (X + c) / 4294967296, by omega, rfl, by simp, by simp, part_step' hP (by rw [← HS.out.1]; rfl), HS.out.2, hC.2⟩
    · obtain rfl : k = La := by omega
      have hkz : ¬ (k : Int) < (k : Int) := by omega
      have f1 := part_open hP (by omega)
      have f2 := hP.row.frozen k
      have hz2 : (k : Int) < (k : Int) + 1 := by omega
      have hcd : c = dig (a * m) k := by
        unfold dig
        rw [hq, quo_end ha.hi, Nat.zero_mul, Nat.zero_add, Nat.mod_eq_of_lt hc]
      have HC : Hid _ := hcd
      clear hcd hq q0
      go_wp2_with fail
      refine (trimmed_any _ (k + 1) (k + 1) (a * m) _ (part_done (part_last hP (by rw [← HC.out]))) HL.out (by omega) (Nat.le_refl _)).mono ?_
      rintro e w' ⟨L', C', rfl, hN, rfl⟩
      go_wp2_with fail
      go_ret
      exact ⟨_, rfl, ⟨_, _, _, _, rfl, hN⟩, hP.q.set (Nat.le_refl _) _⟩
end Go.Proofs.YtjjjgdpgfndbdaaDoor
/- Numbers of five words: what they are worth; the negated one; how many digits. -/
namespace Go.Proofs.YtjjjgdpgfndbdaaDoor
open Go.RowKit
set_option linter.unusedVariables false
set_option linter.unusedSimpArgs false

/-- What so many words are worth. -/
def valW (N : Nat → Nat) : Nat → Nat
  | 0 => 0
  | i + 1 => valW N i + N i * m64 ^ i
theorem valW_lt {N : Nat → Nat} (h : ∀ i, N i < m64) : ∀ i, valW N i < m64 ^ i := by
  intro i
  induction i with
  | zero => exact Nat.one_pos
  | succ i ih =>
    show valW N i + N i * m64 ^ i < m64 ^ (i + 1)
    have h1 : (N i + 1) * m64 ^ i ≤ m64 * m64 ^ i := Nat.mul_le_mul_right _ (h i)
    rw [Nat.add_mul, Nat.one_mul] at h1
    rw [Nat.pow_succ, Nat.mul_comm (m64 ^ i)]
    omega
theorem dg_lt (N M : Nat → Nat) (i : Nat) : dgV N M i < m64 := Nat.mod_lt _ (by decide)
/-- A sum of numbers. -/
theorem sum_words (N M : Nat → Nat) : ∀ i, valW (dgV N M) i + cyV N M i * m64 ^ i = valW N i + valW M i := by
  intro i
  induction i with
  | zero => rfl
  | succ i ih =>
    show valW (dgV N M) i + dgV N M i * m64 ^ i + cyV N M (i + 1) * m64 ^ (i + 1) = valW N i + N i * m64 ^ i + (valW M i + M i * m64 ^ i)
    have h1 : dgV N M i + cyV N M (i + 1) * m64 = N i + M i + cyV N M i := by
      show (N i + M i + cyV N M i) % m64 + (N i + M i + cyV N M i) / m64 * m64 = _
      rw [Nat.mul_comm]; exact Nat.mod_add_div _ _
    have h2 : (dgV N M i + cyV N M (i + 1) * m64) * m64 ^ i = (N i + M i + cyV N M i) * m64 ^ i := by rw [h1]
    rw [Nat.add_mul, Nat.add_mul, Nat.add_mul, Nat.mul_assoc, ← Nat.pow_succ', Nat.succ_eq_add_one] at h2
    omega
/-- All ones less. -/
def notW (N : Nat → Nat) (i : Nat) : Nat := 18446744073709551615 - N i
def oneW (i : Nat) : Nat := if i = 0 then 1 else 0
def negW (N : Nat → Nat) : Nat → Nat := dgV (notW N) oneW
theorem not_lt64 (N : Nat → Nat) (i : Nat) : notW N i < m64 := by unfold notW m64; omega
theorem one_lt64 (i : Nat) : oneW i < m64 := by unfold oneW m64; split <;> omega
theorem not_words {N : Nat → Nat} (h : ∀ i, N i < m64) : ∀ i, valW (notW N) i + valW N i + 1 = m64 ^ i := by
  intro i
  induction i with
  | zero => rfl
  | succ i ih =>
    show valW (notW N) i + notW N i * m64 ^ i + (valW N i + N i * m64 ^ i) + 1 = m64 ^ (i + 1)
    have h1 : notW N i + N i + 1 = m64 := by have := h i; unfold notW m64 at *; omega
    have h2 : (notW N i + N i + 1) * m64 ^ i = m64 * m64 ^ i := by rw [h1]
    rw [Nat.add_mul, Nat.add_mul, Nat.one_mul, ← Nat.pow_succ', Nat.succ_eq_add_one] at h2
    omega
theorem one_words : ∀ i, 1 ≤ i → valW oneW i = 1 := by
  intro i
  induction i with
  | zero => intro h; omega
  | succ i ih =>
    intro _
    show valW oneW i + oneW i * m64 ^ i = 1
    rcases Nat.eq_zero_or_pos i with g | g
    · subst g; rfl
    · rw [ih g]
      unfold oneW
      rw [if_neg (by omega), Nat.zero_mul]
/-- The negated number. -/
theorem neg_words {N : Nat → Nat} (h : ∀ i, N i < m64) (h0 : valW N 5 ≠ 0) : valW (negW N) 5 + valW N 5 = m64 ^ 5 := by
  have h1 := sum_words (notW N) oneW 5
  have h2 := not_words h 5
  have h3 := one_words 5 (by decide)
  have h4 := cy_le (not_lt64 N) one_lt64 5
  have h5 := valW_lt (dg_lt (notW N) oneW) 5
  rw [h3] at h1
  show valW (dgV (notW N) oneW) 5 + valW N 5 = m64 ^ 5
  have h6 : cyV (notW N) oneW 5 = 0 ∨ cyV (notW N) oneW 5 = 1 := by omega
  generalize m64 ^ 5 = G at *
  rcases h6 with e | e
  · rw [e] at h1; omega
  · rw [e, Nat.one_mul] at h1; omega
set_option maxHeartbeats 2000000 in
set_option maxRecDepth 100000 in
theorem negative_any (N : Nat → Nat) (hN : ∀ i, N i < m64) (w : World) : Calls Tryd.prog 104 #[numV N] w fun e w' => e = .returned (.bool (decide (9223372036854775808 ≤ N 4))) ∧ Q w w' := by
  have h4 := hN 4
  unfold m64 at h4
  unfold numV
  by_cases h : 9223372036854775808 ≤ N 4
  · rw [decide_eq_true h]
    have e : ((N 4 : Nat) : Int) / 9223372036854775808 = 1 := by omega
    generalize N 4 = n at *
    clear hN h h4
    go_enter Tryd.func104, Tryd.ntmps104
    go_wp2_with fail
    go_ret
    exact ⟨rfl, (Q.refl w).cells _ _⟩
  · rw [decide_eq_false h]
    have e : ((N 4 : Nat) : Int) / 9223372036854775808 = 0 := by omega
    generalize N 4 = n at *
    clear hN h h4
    go_enter Tryd.func104, Tryd.ntmps104
    go_wp2_with fail
    go_ret
    exact ⟨rfl, (Q.refl w).cells _ _⟩
theorem xor_all {n : Nat} (h : n < 18446744073709551616) : 18446744073709551615 ^^^ n = 18446744073709551615 - n := by
  have h1 : (BitVec.allOnes 64 ^^^ BitVec.ofNat 64 n).toNat = (~~~(BitVec.ofNat 64 n)).toNat := congrArg BitVec.toNat (BitVec.allOnes_xor)
  rw [BitVec.toNat_xor, BitVec.toNat_allOnes, BitVec.toNat_not, BitVec.toNat_ofNat, Nat.mod_eq_of_lt h] at h1
  exact h1
theorem not_bits {n : Nat} (h : n < 18446744073709551616) : bits .xor .u64 IntKind.u64.max (n : Int) = ((18446744073709551615 - n : Nat) : Int) := by
  have e : bits .xor .u64 18446744073709551615 (n : Int) = ((18446744073709551615 ^^^ n : Nat) : Int) := by go_bits2
  rw [show IntKind.u64.max = 18446744073709551615 by decide, e, xor_all h]
/-- The words of a box while they are turned. -/
structure NSt (w : World) (N : Nat → Nat) (B1 B2 i : Nat) (x : World) : Prop where
  q : Q w x
  c1 : ∀ j, j < 5 → x.cell? ⟨B1, j, none⟩ = some (.int .u64 ((if j < i then notW N j else N j : Nat) : Int))
  c2 : ∀ j, j < 5 → x.cell? ⟨B2, j, none⟩ = some (.int .u64 0)
  z1 : ∀ j, x.frozen? ⟨B1, j, none⟩ = false
  z2 : ∀ j, x.frozen? ⟨B2, j, none⟩ = false
theorem NSt.step {w x : World} {N : Nat → Nat} {B1 B2 i : Nat} (h : NSt w N B1 B2 i x) (hw : w.heap.size ≤ B1) (h2 : B2 ≠ B1) (hi : i < 5) : NSt w N B1 B2 (i + 1) (x.setCell ⟨B1, i, none⟩ (.int .u64 (notW N i : Nat))) := by
  refine ⟨h.q.set hw _, fun j hj => ?_, fun j hj => ?_, fun j => ?_, fun j => ?_⟩
  · by_cases e : j = i
    · subst e
      have c := h.c1 j hj
      rw [if_pos (by omega)]
      simp [go_sem, c]
    · have hne : (⟨B1, i, none⟩ : Addr) ≠ ⟨B1, j, none⟩ := fun e' => e (by injection e' with _ e'; exact e'.symm)
      rw [World.cell?_setCell_other _ _ _ _ hne]
      have c := h.c1 j hj
      have : (if j < i + 1 then notW N j else N j) = (if j < i then notW N j else N j) := by
        by_cases g : j < i
        · rw [if_pos g, if_pos (by omega)]
        · rw [if_neg g, if_neg (by omega)]
      rw [this]
      exact c
  · have hne : (⟨B1, i, none⟩ : Addr) ≠ ⟨B2, j, none⟩ := fun e' => h2 (by injection e' with e'; exact e'.symm)
    rw [World.cell?_setCell_other _ _ _ _ hne]
    exact h.c2 j hj
  · rw [World.frozen?_setCell]; exact h.z1 j
  · rw [World.frozen?_setCell]; exact h.z2 j
set_option maxHeartbeats 4000000 in
set_option maxRecDepth 100000 in
theorem negated_any (N : Nat → Nat) (hN : ∀ i, N i < m64) (w : World) : Calls Tryd.prog 105 #[numV N] w fun e w' => e = .returned (numV (negW N)) ∧ Q w w' := by
  have HN : Hid (∀ i, N i < m64) := hN
  clear hN
  unfold numV
  go_enter Tryd.func105, Tryd.ntmps105
  go_wp2_with fail
  obtain ⟨x0, hx0⟩ : ∃ x0, (w.alloc (Obj.cells #[.int .u64 (N 0 : Nat), .int .u64 (N 1 : Nat), .int .u64 (N 2 : Nat), .int .u64 (N 3 : Nat), .int .u64 (N 4 : Nat)] 67)).alloc (Obj.cells #[.int .u64 0, .int .u64 0, .int .u64 0, .int .u64 0, .int .u64 0] 67) = x0 := ⟨_, rfl⟩
  have P0 : NSt w N w.heap.size (w.heap.size + 1) 0 x0 := by
    rw [← hx0]
    refine ⟨((Q.refl w).cells _ _).cells _ _, fun j hj => ?_, fun j hj => ?_, fun j => by simp [go_sem], fun j => by simp [go_sem]⟩
    · rw [if_neg (Nat.not_lt_zero _)]
      rcases j with _ | _ | _ | _ | _ | j
      · simp [go_sem]
      · simp [go_sem]
      · simp [go_sem]
      · simp [go_sem]
      · simp [go_sem]
      · omega
    · rcases j with _ | _ | _ | _ | _ | j
      · simp [go_sem]
      · simp [go_sem]
      · simp [go_sem]
      · simp [go_sem]
      · simp [go_sem]
      · omega
  have HP0 : Hid (NSt w N w.heap.size (w.heap.size + 1) 0 x0) := P0
  rw [hx0]
  clear hx0 P0
  go_loopg [4] (5) (fun gh s4 wr => ∃ i : Nat, s4 = .int .i64 (i : Int) ∧ i ≤ 5 ∧ gh = 5 - i ∧ Hid (NSt w N w.heap.size (w.heap.size + 1) i wr))
  case atStart => exact ⟨0, rfl, by omega, rfl, HP0.out⟩
  case round =>
    obtain ⟨i, rfl, hi, rfl, HP⟩ := hrel
    by_cases h5 : i < 5
    · have c := HP.out.c1 i h5
      rw [if_neg (Nat.lt_irrefl _)] at c
      have z := HP.out.z1 i
      have e := not_bits (HN.out i)
      have hlt : (i : Int) < 5 := by omega
      go_wp2_with fail
      go_roundg (5 - (i + 1))
      case measure => go_light; omega
      case rel =>
        go_light
        exact ⟨i + 1, by simp, by omega, rfl, HP.out.step (Nat.le_refl _) (by omega) h5⟩
    · obtain rfl : i = 5 := by omega
      have HQ : Hid (Q w wr) := HP.out.q
      obtain ⟨a0, a1, a2, a3, a4⟩ : wr.cell? ⟨w.heap.size, 0, none⟩ = some (.int .u64 (notW N 0 : Nat)) ∧ wr.cell? ⟨w.heap.size, 1, none⟩ = some (.int .u64 (notW N 1 : Nat)) ∧ wr.cell? ⟨w.heap.size, 2, none⟩ = some (.int .u64 (notW N 2 : Nat)) ∧ wr.cell? ⟨w.heap.size, 3, none⟩ = some (.int .u64 (notW N 3 : Nat)) ∧ wr.cell? ⟨w.heap.size, 4, none⟩ = some (.int .u64 (notW N 4 : Nat)) :=
        ⟨HP.out.c1 0 (by decide), HP.out.c1 1 (by decide), HP.out.c1 2 (by decide), HP.out.c1 3 (by decide), HP.out.c1 4 (by decide)⟩
      have b0 := HP.out.c2 0 (by decide)
      have b1 := HP.out.c2 1 (by decide)
      have b2 := HP.out.c2 2 (by decide)
      have b3 := HP.out.c2 3 (by decide)
      have b4 := HP.out.c2 4 (by decide)
      have HZ : Hid (∀ j, wr.frozen? ⟨w.heap.size + 1, j, none⟩ = false) := HP.out.z2
      clear HP
      go_wp2_with fail
      refine (nplus_any (notW N) oneW (not_lt64 N) one_lt64 _).mono ?_
      rintro e w1 ⟨rfl, q1⟩
      have c0 := q1.cell b0
      have c1 := q1.cell b1
      have c2 := q1.cell b2
      have c3 := q1.cell b3
      have c4 := q1.cell b4
      have z0 := (q1.2 ⟨w.heap.size + 1, 0, none⟩).trans (HZ.out 0)
      have z1 := (q1.2 ⟨w.heap.size + 1, 1, none⟩).trans (HZ.out 1)
      have z2 := (q1.2 ⟨w.heap.size + 1, 2, none⟩).trans (HZ.out 2)
      have z3 := (q1.2 ⟨w.heap.size + 1, 3, none⟩).trans (HZ.out 3)
      have z4 := (q1.2 ⟨w.heap.size + 1, 4, none⟩).trans (HZ.out 4)
      have HQ1 : Hid (Q w w1) := HQ.out.trans q1
      clear q1 a0 a1 a2 a3 a4 b0 b1 b2 b3 b4 HZ
      unfold numV
      go_wp2_with fail
      refine bodyPost_ret (v := numV (negW N)) (by simp [results, Tryd.results105, go_sem, c0, c1, c2, c3, c4, numV, negW]) rfl ⟨rfl, ?_⟩
      have hle : w.heap.size ≤ w.heap.size + 1 := by omega
      exact ((((HQ1.out.set hle _).set hle _).set hle _).set hle _).set hle _
end Go.Proofs.YtjjjgdpgfndbdaaDoor
