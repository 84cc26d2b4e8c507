/- What the reference's Bits, Compare and Times return of whole numbers in memory. -/
import Derived.Test.YtedafbbpcpebbaaG2a1f5096
import Derived.RegionTactic
import Derived.ChangeAlike
namespace Go.Proofs.Ytedafbbpcpebbaa
open Go.RowKit

/-- How many bits a number has. -/
def blen (n : Nat) : Nat := if n = 0 then 0 else n.log2 + 1
theorem blen_half {n : Nat} (h : 0 < n) : blen (n / 2) + 1 = blen n := by
  unfold blen
  rw [if_neg (by omega : ¬ n = 0)]
  by_cases h1 : n = 1
  · subst h1; decide
  · rw [if_neg (by omega : ¬ n / 2 = 0)]
    rw [Nat.log2_def n, if_pos (by omega)]
theorem blen_lt (n : Nat) : n < 2 ^ blen n := by
  unfold blen
  by_cases h : n = 0
  · rw [if_pos h, h]; decide
  · rw [if_neg h]; exact Nat.lt_log2_self
theorem blen_le {n k : Nat} (h : n < 2 ^ k) : blen n ≤ k := by
  unfold blen
  by_cases h0 : n = 0
  · rw [if_pos h0]; omega
  · rw [if_neg h0]
    exact (Nat.log2_lt h0).2 h
theorem blen_shift (n k : Nat) (h : 2 ^ k ≤ n) : blen n = k + blen (n / 2 ^ k) := by
  have hp := Nat.two_pow_pos k
  have h1 : n / 2 ^ k ≠ 0 := by
    have := (Nat.le_div_iff_mul_le hp).2 (show 1 * 2 ^ k ≤ n by omega)
    omega
  unfold blen
  rw [if_neg (by omega), if_neg h1]
  have : n.log2 = k + (n / 2 ^ k).log2 := by
    refine (Nat.log2_eq_iff (by omega)).2 ⟨?_, ?_⟩
    · have := Nat.log2_self_le h1
      rw [Nat.le_div_iff_mul_le hp, ← Nat.pow_add, Nat.add_comm] at this
      exact this
    · have : n / 2 ^ k < 2 ^ ((n / 2 ^ k).log2 + 1) := Nat.lt_log2_self
      rw [Nat.div_lt_iff_lt_mul hp, ← Nat.pow_add] at this
      rw [show k + (n / 2 ^ k).log2 + 1 = (n / 2 ^ k).log2 + 1 + k by omega]
      exact this
  omega

set_option maxHeartbeats 800000 in
theorem bits_any (va : Value) (n : Nat) (w : World) (ha : NatAt w va n) :
    Calls Try.prog 86 #[va] w fun e w' => e = .returned (.int .i64 (blen n : Int)) ∧ w' = w := by
  obtain ⟨pa, ba, La, Ca, rfl, ha⟩ := ha
  have hlen := ha.len
  rcases Nat.eq_zero_or_pos La with rfl | hpos
  · have h0 := ha.pos.2 rfl
    subst h0
    go_enter Try.func86, Try.ntmps86
    go_wp2
    go_ret
    exact ⟨rfl, rfl⟩
  · obtain ⟨j, rfl⟩ : ∃ j, La = j + 1 := ⟨La - 1, by omega⟩
    obtain rfl := ha.ptr hpos
    have cj := ha.cell j (by omega)
    have hd := dig_lt n j
    have hne : (((j + 1 : Nat) : Int) == 0) = false := by simp; omega
    have h0 : 32 * j + blen (dig n j) = blen n := by
      have h1 := ha.lo hpos
      rw [show j + 1 - 1 = j by omega, base_pow] at h1
      have h2 : dig n j = n / 2 ^ (32 * j) := by
        unfold dig
        rw [Nat.mod_eq_of_lt, base_pow]
        rw [Nat.div_lt_iff_lt_mul (Nat.pow_pos (by decide)), Nat.mul_comm, ← Nat.pow_succ]
        exact ha.hi
      rw [h2]; exact (blen_shift n _ h1).symm
    have H0 : Hid _ := h0
    clear h0
    go_enter Try.func86, Try.ntmps86
    go_wp2
    go_loopg [3, 4] (blen (dig n j)) (fun g s3 s4 wr => wr = w ∧ ∃ m x : Nat, s3 = .int .i64 m ∧ s4 = .int .u32 x ∧ g = blen x ∧ m + blen x = blen n ∧ x < 4294967296 ∧ m ≤ 32 * j + 32)
    case atStart => exact ⟨rfl, 32 * j, dig n j, by simp, rfl, rfl, H0.out, hd, by omega⟩
    case round =>
      obtain ⟨rfl, m, x, rfl, rfl, rfl, hm, hx, hmj⟩ := hrel
      have HM : Hid _ := hm
      clear hm
      by_cases h : x = 0
      · subst h
        go_wp2
        go_ret
        exact ⟨ret_int (by have := HM.out; rw [← this]; simp [blen]), rfl⟩
      · have hz : (0 : Int) < (x : Int) := by omega
        have hb := blen_half (n := x) (by omega)
        have hle : blen x ≤ 32 := blen_le hx
        have HB : Hid _ := hb
        clear hb
        go_wp2
        go_roundg (blen (x / 2))
        case measure => go_light; have := HB.out; omega
        case rel =>
          go_light
          have := HB.out
          have := HM.out
          have hcap : blen n ≤ 32 * j + 32 := blen_le (by
            have h1 := ha.hi
            rw [base_pow, Nat.mul_add] at h1
            exact h1)
          exact ⟨rfl, m + 1, x / 2, by simp, by simp, rfl, by omega, by omega, by omega⟩

/-- -1, 0, 1. -/
def cmpV (a b : Nat) : Int := if a < b then -1 else if a = b then 0 else 1

theorem cmp_step {a b j : Nat} (h : a / 4294967296 ^ (j + 1) = b / 4294967296 ^ (j + 1)) :
    (dig a j = dig b j → a / 4294967296 ^ j = b / 4294967296 ^ j) ∧ (dig a j < dig b j → a < b) ∧ (dig b j < dig a j → b < a) := by
  rw [quo_succ, quo_succ] at h
  unfold dig
  refine ⟨fun e => by omega, fun e => ?_, fun e => ?_⟩
  · rcases Nat.lt_or_ge a b with g | g
    · exact g
    · have := Nat.div_le_div_right (c := 4294967296 ^ j) g
      omega
  · rcases Nat.lt_or_ge b a with g | g
    · exact g
    · have := Nat.div_le_div_right (c := 4294967296 ^ j) g
      omega

theorem len_lt {w : World} {p q : Option Addr} {ba bb La Lb a b : Nat} (ha : NatIs w p ba La a) (hb : NatIs w q bb Lb b) (h : La < Lb) : a < b := by
  have h1 := ha.hi
  have h2 := hb.lo (by omega)
  have h3 : 4294967296 ^ La ≤ 4294967296 ^ (Lb - 1) := Nat.pow_le_pow_right (by decide) (by omega)
  omega

set_option maxHeartbeats 1600000 in
theorem compare_any (va vb : Value) (a b : Nat) (w : World) (ha : NatAt w va a) (hb : NatAt w vb b) :
    Calls Try.prog 56 #[va, vb] w fun e w' => e = .returned (.int .i64 (cmpV a b)) ∧ Q w w' := by
  obtain ⟨pa, ba, La, Ca, rfl, ha⟩ := ha
  obtain ⟨pb, bb, Lb, Cb, rfl, hb⟩ := hb
  have hla := ha.len
  have hlb := hb.len
  rcases Nat.lt_trichotomy La Lb with h | h | h
  · have h1 : ((La : Int) != (Lb : Int)) = true := by simp; omega
    have h2 : (La : Int) < (Lb : Int) := by omega
    have e : cmpV a b = -1 := by unfold cmpV; rw [if_pos (len_lt ha hb h)]
    rw [e]
    go_enter Try.func56, Try.ntmps56
    go_wp2
    go_ret
    exact ⟨rfl, Q.refl w⟩
  · subst h
    go_enter Try.func56, Try.ntmps56
    go_wp2
    go_loopg [5] La (fun g s5 wr => Q w wr ∧ ((g = 0 ∧ s5 = .int .i64 (-1) ∧ a = b) ∨ ∃ j : Nat, g = j + 1 ∧ s5 = .int .i64 j ∧ j < La ∧ a / 4294967296 ^ (j + 1) = b / 4294967296 ^ (j + 1)))
    case atStart =>
      refine ⟨Q.refl w, ?_⟩
      rcases Nat.eq_zero_or_pos La with h0 | h0
      · exact Or.inl ⟨h0, congrArg (Value.int .i64) (by omega), by rw [ha.pos.2 h0, hb.pos.2 h0]⟩
      · exact Or.inr ⟨La - 1, by omega, congrArg (Value.int .i64) (by omega), by omega, by rw [show La - 1 + 1 = La by omega, quo_end ha.hi, quo_end hb.hi]⟩
    case round =>
      obtain ⟨hQ, ⟨rfl, rfl, rfl⟩ | ⟨j, rfl, rfl, hj, hab⟩⟩ := hrel
      · go_wp2
        go_ret
        exact ⟨ret_int (by unfold cmpV; rw [if_neg (by omega), if_pos rfl]), hQ⟩
      · have hjz : (0 : Int) ≤ (j : Int) := by omega
        obtain rfl := ha.ptr (by omega)
        obtain rfl := hb.ptr (by omega)
        have ca := hQ.cell (ha.cell j hj)
        have cb := hQ.cell (hb.cell j hj)
        have HS : Hid _ := cmp_step hab
        clear hab
        by_cases hd : dig a j = dig b j
        · have h1 : ((dig a j : Int) != (dig b j : Int)) = false := by rw [hd]; simp
          go_wp2
          go_region
          all_goals
            go_wp2
            go_roundg j
            case measure => go_light; omega
            case rel =>
              go_light
              refine ⟨hQ.drew, ?_⟩
              have hq := HS.out.1 hd
              rcases Nat.eq_zero_or_pos j with h0 | h0
              · subst h0
                rw [quo_zero, quo_zero] at hq
                exact Or.inl ⟨rfl, by simp, hq⟩
              · exact Or.inr ⟨j - 1, by omega, congrArg (Value.int .i64) (by omega), by omega, by rw [show j - 1 + 1 = j by omega]; exact hq⟩
        · have h1 : ((dig a j : Int) != (dig b j : Int)) = true := by simp; omega
          rcases Nat.lt_or_ge (dig a j) (dig b j) with hl | hl
          · have h2 : (dig a j : Int) < (dig b j : Int) := by omega
            go_wp2
            go_region
            all_goals
              go_wp2
              go_region
              all_goals
                go_wp2
                go_ret
                exact ⟨ret_int (by have := HS.out.2.1 hl; unfold cmpV; rw [if_pos this]), hQ.drew.drew⟩
          · have h2 : ¬ (dig a j : Int) < (dig b j : Int) := by omega
            go_wp2
            go_region
            all_goals
              go_wp2
              go_region
              all_goals
                go_wp2
                go_ret
                exact ⟨ret_int (by have := HS.out.2.2 (by omega); unfold cmpV; rw [if_neg (by omega), if_neg (by omega)]), hQ.drew.drew⟩
  · have h1 : ((La : Int) != (Lb : Int)) = true := by simp; omega
    have h2 : ¬ (La : Int) < (Lb : Int) := by omega
    have e : cmpV a b = 1 := by have := len_lt hb ha h; unfold cmpV; rw [if_neg (by omega), if_neg (by omega)]
    rw [e]
    go_enter Try.func56, Try.ntmps56
    go_wp2
    go_ret
    exact ⟨rfl, Q.refl w⟩

/-- One digit of a product. -/
theorem mul_dig {a m k c : Nat} (h : a * m / 4294967296 ^ k = a / 4294967296 ^ k * m + c) :
    (dig a k * m + c) % 4294967296 = dig (a * m) k ∧ a * m / 4294967296 ^ (k + 1) = a / 4294967296 ^ (k + 1) * m + (dig a k * m + c) / 4294967296 := by
  rw [quo_succ, quo_succ]
  unfold dig
  rw [h]
  generalize a / 4294967296 ^ k = x
  have e : x * m = 4294967296 * (x / 4294967296 * m) + x % 4294967296 * m := by
    rw [← Nat.mul_assoc, ← Nat.add_mul, Nat.div_add_mod]
  generalize x / 4294967296 * m = u at *
  generalize x % 4294967296 * m = v at *
  omega
theorem mul_carry {x m c : Nat} (hx : x < 4294967296) (hm : m < 4294967296) (hc : c < 4294967296) : x * m ≤ 18446744065119617025 ∧ (x * m + c) / 4294967296 < 4294967296 := by
  have := Nat.mul_le_mul (show x ≤ 4294967295 by omega) (show m ≤ 4294967295 by omega)
  omega
theorem part_last {w wr : World} {L v : Nat} (h : Part w wr (L + 1) v L) {x : Int} (e : x = dig v L) : Part w (wr.setCell ⟨w.heap.size, L, none⟩ (.int .u32 x)) (L + 1) v (L + 1) := part_step' h e

set_option maxHeartbeats 1600000 in
theorem times_any (va : Value) (a m : Nat) (w : World) (ha : NatAt w va a) (hm : m < 4294967296) (hs : a < cap) :
    Calls Try.prog 28 #[va, .int .u32 m] w fun e w' => ∃ v, e = .returned v ∧ NatAt w' v (a * m) ∧ Q w w' := by
  obtain ⟨pa, ba, La, Ca, rfl, ha⟩ := ha
  have hla := ha.len_cap hs
  have hmz : ((La : Int) + 1) = ((La + 1 : Nat) : Int) := by omega
  have hmk := run_make_row' (P := Try.prog) 36 23 (.int .u32 0) 4 Try.underlying36 info_u32 rfl .i64 .i64 (La + 1) (by omega) (by omega)
  rw [← hmz] at hmk
  clear hmz
  have HL : Hid (a * m < 4294967296 ^ (La + 1)) := by
    show a * m < 4294967296 ^ (La + 1)
    rw [Nat.pow_succ]
    exact Nat.mul_lt_mul_of_lt_of_lt ha.hi hm
  have q0 : a * m / 4294967296 ^ 0 = a / 4294967296 ^ 0 * m + 0 := by rw [quo_zero, quo_zero]; rfl
  go_enter Try.func28, Try.ntmps28
  go_wp2
  clear hmk
  go_loopg [6, 7] La (fun g s6 s7 wr => ∃ k c : Nat, k ≤ La ∧ g = La - k ∧ s6 = .int .u64 c ∧ s7 = .int .i64 k ∧ Part w wr (La + 1) (a * m) k ∧ a * m / 4294967296 ^ k = a / 4294967296 ^ k * m + c ∧ c < 4294967296)
  case atStart => exact ⟨0, 0, Nat.zero_le _, rfl, rfl, rfl, part_start w (La + 1) _, q0, by decide⟩
  case round =>
    obtain ⟨k, c, hk, rfl, rfl, rfl, hP, hq, hc⟩ := hrel
    by_cases hkL : k < La
    · have hkz : (k : Int) < (La : Int) := by omega
      have hkz2 : (k : Int) < (La : Int) + 1 := by omega
      obtain rfl := ha.ptr (by omega)
      have ca := hP.q.cell (ha.cell k hkL)
      have hd := dig_lt a k
      have f1 := part_open hP (by omega)
      have f2 := hP.row.frozen k
      have hS := mul_dig hq
      have hC := mul_carry hd hm hc
      obtain ⟨X, hX⟩ : ∃ X, X = dig a k * m := ⟨_, rfl⟩
      rw [← hX] at hS hC
      have hw : (dig a k : Int) * (m : Int) = (X : Int) := by rw [hX, Int.natCast_mul]
      have hmask := and_mask ((X : Int) + c) (by omega) (by omega)
      have HS : Hid _ := hS
      have HX : Hid _ := hX
      clear hS hX hq q0
      go_wp2
      go_roundg (La - (k + 1))
      case measure => go_light; omega
      case rel =>
        go_light
        exact ⟨k + 1, (X + c) / 4294967296, by omega, rfl, by simp, by simp, part_step' hP (by rw [← HS.out.1]; rfl), HS.out.2, hC.2⟩
    · obtain rfl : k = La := by omega
      have hkz : ¬ (k : Int) < (k : Int) := by omega
      have f1 := part_open hP (by omega)
      have f2 := hP.row.frozen k
      have hz2 : (k : Int) < (k : Int) + 1 := by omega
      have hcd : c = dig (a * m) k := by
        unfold dig
        rw [hq, quo_end ha.hi, Nat.zero_mul, Nat.zero_add, Nat.mod_eq_of_lt hc]
      have HC : Hid _ := hcd
      clear hcd hq q0
      go_wp2_with fail
      refine (trimmed_any _ (k + 1) (k + 1) (a * m) _ (part_done (part_last hP (by rw [← HC.out]))) HL.out (by omega) (Nat.le_refl _)).mono ?_
      rintro e w' ⟨L', C', rfl, hN, rfl⟩
      go_wp2_with fail
      go_ret
      exact ⟨_, rfl, ⟨_, _, _, _, rfl, hN⟩, hP.q.set (Nat.le_refl _) _⟩
end Go.Proofs.Ytedafbbpcpebbaa
/- What the reference's Minus, NatOf, Low and Bit return of whole numbers in memory. -/
namespace Go.Proofs.Ytedafbbpcpebbaa
open Go.RowKit

theorem minus_rel {w wr : World} {M d b k c : Nat} (X : Int) (c1 : Nat) (hX : X = dig d k) (hP : Part w wr M d k)
    (hQ : (d + b) / 4294967296 ^ (k + 1) = d / 4294967296 ^ (k + 1) + b / 4294967296 ^ (k + 1) + (c + dig d k + dig b k) / 4294967296)
    (h1 : c1 = (c + dig d k + dig b k) / 4294967296) (hk : k < M) (hc : c1 ≤ 1) :
    ∃ k' c' : Nat, k' ≤ M ∧ M - (k + 1) = M - k' ∧ Value.int .u64 c1 = .int .u64 c' ∧ Value.int .i64 ((k : Int) + 1) = .int .i64 k' ∧
      Part w (wr.setCell { block := w.heap.size, off := k } (.int .u32 X)) M d k' ∧ (d + b) / 4294967296 ^ k' = d / 4294967296 ^ k' + b / 4294967296 ^ k' + c' ∧ c' ≤ 1 :=
  ⟨k + 1, c1, by omega, rfl, rfl, by simp, part_step' hP hX, by rw [h1]; exact hQ, hc⟩

set_option maxHeartbeats 4000000 in
theorem minus_any (va vb : Value) (a b : Nat) (w : World) (ha : NatAt w va a) (hb : NatAt w vb b) (hs : a < cap) (hab : b ≤ a) :
    Calls Try.prog 61 #[va, vb] w fun e w' => ∃ v, e = .returned v ∧ NatAt w' v (a - b) ∧ Q w w' := by
  obtain ⟨pa, ba, La, Ca, rfl, ha⟩ := ha
  obtain ⟨pb, bb, Lb, Cb, rfl, hb⟩ := hb
  have hla := ha.len_cap (by omega)
  have hlb := hb.len_cap (by omega)
  obtain ⟨d, rfl⟩ : ∃ d, a = d + b := ⟨a - b, by omega⟩
  rw [Nat.add_sub_cancel]
  have hmk := run_make_row' (P := Try.prog) 36 23 (.int .u32 0) 4 Try.underlying36 info_u32 rfl .i64 .i64 La (by omega) (by omega)
  have q0 : (d + b) / 4294967296 ^ 0 = d / 4294967296 ^ 0 + b / 4294967296 ^ 0 + 0 := by rw [quo_zero, quo_zero, quo_zero]; rfl
  have HL : Hid (d < 4294967296 ^ La) := Nat.lt_of_le_of_lt (by omega) ha.hi
  go_enter Try.func61, Try.ntmps61
  go_wp2
  clear hmk
  go_loopg [6, 7] La (fun g s6 s7 wr => ∃ k c : Nat, k ≤ La ∧ g = La - k ∧ s6 = .int .u64 c ∧ s7 = .int .i64 k ∧ Part w wr La d k ∧ (d + b) / 4294967296 ^ k = d / 4294967296 ^ k + b / 4294967296 ^ k + c ∧ c ≤ 1)
  case atStart => exact ⟨0, 0, Nat.zero_le _, rfl, rfl, rfl, part_start w La _, q0, by decide⟩
  case round =>
    obtain ⟨k, c, hk, rfl, rfl, rfl, hP, hq, hc⟩ := hrel
    have hS := sum_dig hq
    have hda := dig_lt (d + b) k
    have hdb := dig_lt b k
    have hdd := dig_lt d k
    clear hq q0
    by_cases hkM : k < La
    · have hkz : (k : Int) < (La : Int) := by omega
      have f1 := part_open hP hkM
      have f2 := hP.row.frozen k
      obtain rfl := ha.ptr (by omega)
      have ca := hP.q.cell (ha.cell k hkM)
      have hlt : ((dig (d + b) k : Int) < (c : Int) + dig b k ∧ (dig (d + b) k : Int) + 4294967296 - ((c : Int) + dig b k) = dig d k ∧ 1 = (c + dig d k + dig b k) / 4294967296) ∨
          (¬ (dig (d + b) k : Int) < (c : Int) + dig b k ∧ (dig (d + b) k : Int) - ((c : Int) + dig b k) = dig d k ∧ 0 = (c + dig d k + dig b k) / 4294967296) := by
        have := hS.1
        omega
      have HS : Hid _ := hS.2
      clear hS
      have Hlt : Hid _ := hlt
      clear hlt
      by_cases h2 : k < Lb
      · obtain rfl := hb.ptr (by omega)
        have h2z : (k : Int) < (Lb : Int) := by omega
        have cb := hP.q.cell (hb.cell k h2)
        rcases Hlt.out with ⟨g1, g2, g3⟩ | ⟨g1, g2, g3⟩
        · have G3 : Hid _ := g3
          clear g3
          go_wp2
          go_roundg (La - (k + 1))
          case measure => go_light; omega
          case rel => go_light; exact minus_rel _ 1 rfl hP HS.out G3.out hkM (by decide)
        · have G3 : Hid _ := g3
          clear g3
          go_wp2
          go_roundg (La - (k + 1))
          case measure => go_light; omega
          case rel => go_light; exact minus_rel _ 0 rfl hP HS.out G3.out hkM (by decide)
      · have h2z : ¬ (k : Int) < (Lb : Int) := by omega
        have e2 := dig_end hb.hi (i := k) (by omega)
        have E2 : Hid _ := e2
        rcases Hlt.out with ⟨g1, g2, g3⟩ | ⟨g1, g2, g3⟩
        · have G3 : Hid _ := g3
          have g1' : (dig (d + b) k : Int) < (c : Int) := by omega
          have g2' : (dig (d + b) k : Int) + 4294967296 - (c : Int) = dig d k := by omega
          clear g3 g1 g2 e2
          go_wp2
          go_roundg (La - (k + 1))
          case measure => go_light; omega
          case rel => go_light; exact minus_rel _ 1 rfl hP HS.out G3.out hkM (by decide)
        · have G3 : Hid _ := g3
          have g1' : ¬ (dig (d + b) k : Int) < (c : Int) := by omega
          have g2' : (dig (d + b) k : Int) - (c : Int) = dig d k := by omega
          clear g3 g1 g2 e2
          go_wp2
          go_roundg (La - (k + 1))
          case measure => go_light; omega
          case rel => go_light; exact minus_rel _ 0 rfl hP HS.out G3.out hkM (by decide)
    · have hkz : ¬ (k : Int) < (La : Int) := by omega
      obtain rfl : k = La := by omega
      go_wp2_with fail
      refine (trimmed_any _ k k d wr (part_done hP) HL.out (by omega) (Nat.le_refl _)).mono ?_
      rintro e w' ⟨L', C', rfl, hN, rfl⟩
      go_wp2_with fail
      go_ret
      exact ⟨_, rfl, ⟨_, _, _, _, rfl, hN⟩, hP.q⟩

/-- How many digits a number of 64 bits has. -/
def len64 (n : Nat) : Nat := if n = 0 then 0 else if n < 4294967296 then 1 else 2
theorem len64_unique {w : World} {p : Option Addr} {b L n : Nat} (h : NatIs w p b L n) (hn : n < 18446744073709551616) : L = len64 n := by
  have h2 := h.len_le (k := 2) (by omega)
  unfold len64
  by_cases h0 : n = 0
  · rw [if_pos h0]; exact h.pos.1 h0
  · rw [if_neg h0]
    have hL : L ≠ 0 := fun e => h0 (h.pos.2 e)
    by_cases h1 : n < 4294967296
    · rw [if_pos h1]
      have := h.len_le (k := 1) (by omega)
      omega
    · rw [if_neg h1]
      rcases (by omega : L = 1 ∨ L = 2) with e | e
      · subst e
        have := h.hi
        omega
      · exact e
/-- Two digits that lie somewhere. -/
theorem natAt_two {w : World} {b n C : Nat} (hn : n < 18446744073709551616) (h0 : w.cell? ⟨b, 0, none⟩ = some (.int .u32 ((n : Int) % 4294967296))) (h1 : w.cell? ⟨b, 1, none⟩ = some (.int .u32 ((n : Int) / 4294967296))) :
    NatAt w (.slice (some ⟨b, 0, none⟩) (len64 n) C) n := by
  refine ⟨_, b, _, C, rfl, fun _ => rfl, fun i hi => ?_, ?_, ?_, ?_⟩
  · have hi2 : i < 2 := Nat.lt_of_lt_of_le hi (by unfold len64; split <;> (try split) <;> omega)
    rcases (by omega : i = 0 ∨ i = 1) with rfl | rfl
    · rw [h0]; congr 2; unfold dig; rw [quo_zero]; rfl
    · rw [h1]; congr 2; unfold dig; rw [Nat.pow_one]; omega
  · unfold len64; split
    · omega
    · split <;> omega
  · unfold len64; split
    · omega
    · split
      · intro _; omega
      · intro _; omega
  · unfold len64; split
    · omega
    · split <;> omega

set_option maxHeartbeats 800000 in
theorem natof_any (n : Nat) (w : World) (hn : n < 18446744073709551616) :
    Calls Try.prog 58 #[.int .u64 n] w fun e w' => ∃ C, e = .returned (.slice (some ⟨w.heap.size, 0, none⟩) (len64 n) C) ∧ w' = w.alloc (.cells #[.int .u32 ((n : Int) % 4294967296), .int .u32 ((n : Int) / 4294967296)] 23) := by
  have m1 := and_mask (n : Int) (by omega) (by omega)
  have hc : ∀ i, i < 2 → (w.alloc (.cells #[.int .u32 ((n : Int) % 4294967296), .int .u32 ((n : Int) / 4294967296)] 23)).cell? ⟨w.heap.size, i, none⟩ = some (.int .u32 (dig n i)) := by
    intro i hi
    have := (World.rowIs_alloc w #[.int .u32 ((n : Int) % 4294967296), .int .u32 ((n : Int) / 4294967296)] 23 (fun i => .int .u32 (dig n i)) (by
      intro i hi
      have hi' : i < 2 := hi
      rcases (by omega : i = 0 ∨ i = 1) with rfl | rfl
      · show some (Value.int .u32 ((n : Int) % 4294967296)) = _
        congr 2; unfold dig; rw [quo_zero]; rfl
      · show some (Value.int .u32 ((n : Int) / 4294967296)) = _
        congr 2; unfold dig; rw [Nat.pow_one]; omega)).cell (i := i) hi
    exact this
  go_enter Try.func58, Try.ntmps58
  go_wp2_with fail
  refine (trimmed_any _ 2 2 n _ hc (by omega) (by decide) (Nat.le_refl _)).mono ?_
  rintro e w' ⟨L', C', rfl, hN, rfl⟩
  rw [len64_unique hN hn]
  go_wp2_with fail
  go_ret
  exact ⟨_, rfl, rfl⟩
/-- The same, as the others are told. -/
theorem natof_nat (n : Nat) (w : World) (hn : n < 18446744073709551616) :
    Calls Try.prog 58 #[.int .u64 n] w fun e w' => ∃ v, e = .returned v ∧ NatAt w' v n ∧ Q w w' := by
  refine (natof_any n w hn).mono ?_
  rintro e w' ⟨C, rfl, rfl⟩
  refine ⟨_, rfl, natAt_two hn ?_ ?_, (Q.refl w).cells _ _⟩
  · simp [go_sem]
  · simp [go_sem]

theorem or_hi (x y : Nat) (hx : x < 4294967296) (hy : y < 4294967296) : bits .or .u64 (x : Int) ((y : Int) * 4294967296) = ((x + y * 4294967296 : Nat) : Int) := by
  have e : (y : Int) * 4294967296 = ((y * 4294967296 : Nat) : Int) := by omega
  rw [e, u64_or_nat _ _ (by omega) (by omega), Nat.or_comm, Nat.mul_comm y, show (4294967296 : Nat) = 2 ^ 32 from rfl, ← Nat.two_pow_add_eq_or_of_lt (i := 32) hx y, Nat.add_comm]

def lowV (n : Nat) : Nat := n % 18446744073709551616
set_option maxHeartbeats 800000 in
theorem low_any (va : Value) (n : Nat) (w : World) (ha : NatAt w va n) :
    Calls Try.prog 87 #[va] w fun e w' => e = .returned (.int .u64 (lowV n : Int)) ∧ w' = w := by
  obtain ⟨pa, ba, La, Ca, rfl, ha⟩ := ha
  have d0 := dig_lt n 0
  have d1 := dig_lt n 1
  have hlen := ha.len
  have hor := or_hi _ _ d0 d1
  have e0 : dig n 0 = n % 4294967296 := by unfold dig; rw [quo_zero]
  have e1 : dig n 1 = n / 4294967296 % 4294967296 := by unfold dig; rw [Nat.pow_one]
  have E0 : Hid _ := e0
  have E1 : Hid _ := e1
  clear e0 e1
  rcases Nat.eq_zero_or_pos La with rfl | hpos
  · have h0 := ha.pos.2 rfl
    subst h0
    go_enter Try.func87, Try.ntmps87
    go_wp2
    go_ret
    exact ⟨ret_int (by decide), rfl⟩
  · obtain rfl := ha.ptr hpos
    have c0 := ha.cell 0 hpos
    by_cases h1 : La = 1
    · subst h1
      go_enter Try.func87, Try.ntmps87
      go_wp2
      go_ret
      have := ha.hi
      rw [Nat.pow_one] at this
      exact ⟨ret_int (by have := E0.out; unfold lowV; omega), rfl⟩
    · have h1z : (1 : Int) < (La : Int) := by omega
      have h0z : (0 : Int) < (La : Int) := by omega
      have c1 := ha.cell 1 (by omega)
      go_enter Try.func87, Try.ntmps87
      go_wp2
      go_ret
      exact ⟨ret_int (by have := E0.out; have := E1.out; unfold lowV; omega), rfl⟩

/-- The i-th bit; the lowest 64. -/
def bitV (n i : Nat) : Nat := n / 2 ^ i % 2
theorem bitV_le (n i : Nat) : bitV n i ≤ 1 := by unfold bitV; omega

theorem dig_bit (n q r : Nat) (hr : r < 32) : dig n q / 2 ^ r % 2 = bitV n (32 * q + r) := by
  unfold dig bitV
  rw [Nat.pow_add, ← base_pow, ← Nat.div_div_eq_div_mul]
  generalize n / 4294967296 ^ q = x
  have e : 4294967296 = 2 ^ r * (2 * 2 ^ (31 - r)) := by rw [show 2 * 2 ^ (31 - r) = 2 ^ (31 - r + 1) by rw [Nat.pow_succ]; omega, ← Nat.pow_add, show r + (31 - r + 1) = 32 by omega]
  rw [e, Nat.mod_mul, Nat.mul_comm (2 ^ r), Nat.add_mul_div_right _ _ (Nat.two_pow_pos r), Nat.div_eq_of_lt (Nat.mod_lt _ (Nat.two_pow_pos r)), Nat.zero_add]
  rw [Nat.mod_mod_of_dvd _ ⟨_, rfl⟩]

set_option maxHeartbeats 800000 in
theorem bit_any (va : Value) (n i : Nat) (w : World) (ha : NatAt w va n) (hi : i ≤ 20000) :
    Calls Try.prog 76 #[va, .int .i64 i] w fun e w' => e = .returned (.int .i64 (bitV n i : Int)) ∧ w' = w := by
  obtain ⟨pa, ba, La, Ca, rfl, ha⟩ := ha
  obtain ⟨q, r, hq, hr⟩ : ∃ q r : Nat, i = 32 * q + r ∧ r < 32 := ⟨i / 32, i % 32, by omega, by omega⟩
  obtain ⟨e1, e2⟩ := i64_quo32 i q r hq hr
  have hB := dig_bit n q r hr
  rw [← hq] at hB
  have HN : Hid (i = 32 * q + r) := hq
  have hq6 : q ≤ 625 := by omega
  clear hq
  have hneg : ¬ (i : Int) < 0 := by omega
  have hlen := ha.len
  have hdq := dig_lt n q
  have hlt : dig n q / 2 ^ r ≤ dig n q := Nat.div_le_self _ _
  have hm : bits .and .u32 ((dig n q : Int) / 2 ^ r) 1 = (bitV n i : Int) := by
    have e : (dig n q : Int) / 2 ^ r = ((dig n q / 2 ^ r : Nat) : Int) := by rw [Int.natCast_ediv, Int.natCast_pow]; rfl
    rw [e, ← hB, show (1 : Int) = ((1 : Nat) : Int) from rfl, u32_and_nat _ _ (by omega) (by decide), Nat.and_one_is_mod]
  have hb2 := bitV_le n i
  by_cases h : q < La
  · have hz : ¬ (La : Int) ≤ (q : Int) := by omega
    obtain rfl := ha.ptr (by omega)
    have cq := ha.cell q h
    clear hB
    go_enter Try.func76, Try.ntmps76
    go_wp2
    go_ret
    exact ⟨rfl, rfl⟩
  · have hz : (La : Int) ≤ (q : Int) := by omega
    have h0 : n / 2 ^ i = 0 := Nat.div_eq_of_lt (by
      have h1 := ha.hi
      rw [base_pow] at h1
      exact Nat.lt_of_lt_of_le h1 (Nat.pow_le_pow_right (by decide) (by have := HN.out; omega)))
    have e0 : bitV n i = 0 := by unfold bitV; rw [h0]
    rw [e0]
    clear hm hB hb2
    go_enter Try.func76, Try.ntmps76
    go_wp2
    go_ret
    exact ⟨rfl, rfl⟩
end Go.Proofs.Ytedafbbpcpebbaa
