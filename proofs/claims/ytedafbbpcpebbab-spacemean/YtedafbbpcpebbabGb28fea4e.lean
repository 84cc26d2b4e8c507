/- What the reference's Nearest and FromInt return. -/
import Derived.Test.YtedafbbpcpebbabG2d91871d
import Derived.Test.YtedafbbpcpebbabGb3507a38
namespace Go.Proofs.Ytedafbbpcpebbab
open Go.RowKit

/-- To the nearest, by bits. -/
theorem rne_bits {n d : Nat} (h : 1 ≤ d) : rne n d = n / 2 ^ d + if bitV n (d - 1) = 1 ∧ (restB n (d - 1) = true ∨ bitV (n / 2 ^ d) 0 = 1) then 1 else 0 := by
  have k := kept_down (n := n) (m := 0) (e := 0) d (rfl : (0 : Int) + (d : Int) = 0 + (d : Int)) h (by decide)
  unfold keptV at k
  rw [Nat.add_zero, show (0 : Int) - 1 - (0 + (d : Int)) = -((d + 1 : Nat) : Int) by omega, rz_neg, Nat.mul_comm 2 n, show n * 2 = n * 2 ^ 1 by rw [Nat.pow_one], rne_scale] at k
  rw [k]
  have e : restB n (d - 1) = true ↔ n % 2 ^ (d - 1) ≠ 0 := by unfold restB; simp
  congr 1
  simp only [e]
  simp
/-- What Floor and Nearest of the reference tell. -/
theorem flo_told {way : Ieee.Toward} (hw : way = .down ∨ way = .even) {a : Nat} (h : rung32 a < 2139095040) :
    floI way a = wI (Ieee.signed (sgn32 a) (wholeN way (sgn32 a) (mag32 (rung32 a)) (-149 + (plc32 (rung32 a) : Int))) 0) ∧ floE way a = wE (Ieee.signed (sgn32 a) (wholeN way (sgn32 a) (mag32 (rung32 a)) (-149 + (plc32 (rung32 a) : Int))) 0) := by
  obtain ⟨V, v1, v2, v3⟩ := flo_fin hw h
  rw [← v1, v2, v3]
  exact ⟨rfl, rfl⟩
set_option maxHeartbeats 2000000 in
theorem rint_any (n : Int) (n0 : -9223372036854775808 ≤ n) (n1 : n ≤ 9223372036854775807) (w : World) : Calls Try.prog 15 #[.int .i64 n] w fun e w' => e = .returned (.int .u32 (Ieee.single.write (.number (decide (n < 0)) n.natAbs 0) : Nat)) ∧ Q w w' := by
  have hv : Ieee.single.write (.number (decide (n < 0)) n.natAbs 0) = roundR (.fin (decide (n < 0)) n.natAbs 0 false) := (roundR_fin _ _ _).symm
  rw [hv]
  clear hv
  have hfit : fits (.fin (decide (n < 0)) n.natAbs 0 false) := ⟨by have := blen_le (n := n.natAbs) (k := 64) (by omega); omega, by omega, by omega, fun h => by cases h⟩
  by_cases h : n < 0
  · rw [decide_eq_true h] at hfit ⊢
    obtain ⟨m, hm⟩ : ∃ m : Nat, m = n.natAbs := ⟨_, rfl⟩
    rw [← hm] at hfit ⊢
    have hmn : n = -(m : Int) := by omega
    subst hmn
    have hmb : m ≤ 9223372036854775808 := by omega
    have w1 : IntKind.u64.wrap (-(m : Int)) = 18446744073709551616 - (m : Int) := by rw [IntKind.wrap_u64]; omega
    have w2 : IntKind.u64.wrap (-(18446744073709551616 - (m : Int))) = (m : Int) := by rw [IntKind.wrap_u64]; omega
    clear hm
    go_enter Try.func15, Try.ntmps15
    go_wp2_with fail
    refine (natof_nat m _ (by omega)).mono ?_
    rintro x u1 ⟨v1, rfl, h1, q1⟩
    obtain ⟨p1, b1, L1, C1, rfl, i1⟩ := h1
    have H1 : Hid _ := i1
    clear i1
    go_wp2_with fail
    refine (rbits_any _ (.fin true m 0 false) _ ⟨_, rfl, p1, b1, L1, C1, rfl, H1.out⟩ hfit).mono ?_
    rintro x u2 ⟨rfl, q2⟩
    go_wp2_with fail
    go_ret
    exact ⟨rfl, q1.trans q2⟩
  · rw [decide_eq_false h] at hfit ⊢
    obtain ⟨m, hm⟩ : ∃ m : Nat, m = n.natAbs := ⟨_, rfl⟩
    rw [← hm] at hfit ⊢
    have hmn : n = (m : Int) := by omega
    subst hmn
    have hmb : m ≤ 9223372036854775807 := by omega
    have w1 : IntKind.u64.wrap (m : Int) = (m : Int) := by rw [IntKind.wrap_u64]; omega
    clear hm
    go_enter Try.func15, Try.ntmps15
    go_wp2_with fail
    refine (natof_nat m _ (by omega)).mono ?_
    rintro x u1 ⟨v1, rfl, h1, q1⟩
    obtain ⟨p1, b1, L1, C1, rfl, i1⟩ := h1
    have H1 : Hid _ := i1
    clear i1
    go_wp2_with fail
    refine (rbits_any _ (.fin false m 0 false) _ ⟨_, rfl, p1, b1, L1, C1, rfl, H1.out⟩ hfit).mono ?_
    rintro x u2 ⟨rfl, q2⟩
    go_wp2_with fail
    go_ret
    exact ⟨rfl, q1.trans q2⟩
end Go.Proofs.Ytedafbbpcpebbab
/- What the reference's IsNaN, key, Less, Equal, Least and Greatest return of whatever samples. -/
namespace Go.Proofs.Ytedafbbpcpebbab
open Go.RowKit

theorem nanN_cases (b : Nat) : (numOf Ieee.single b = .nan ∧ nanN b = true) ∨ ((∃ s, numOf Ieee.single b = .inf s) ∧ nanN b = false) ∨ ((∃ s n e, numOf Ieee.single b = .fin s n e false) ∧ nanN b = false) := by
  unfold nanN
  by_cases h1 : b / 8388608 % 256 = 255
  · by_cases h2 : b % 8388608 = 0
    · exact Or.inr (Or.inl ⟨⟨_, numOf_inf h1 h2⟩, decide_eq_false (by omega)⟩)
    · exact Or.inl ⟨numOf_nan h1 h2, decide_eq_true (by omega)⟩
  · by_cases h3 : b / 8388608 % 256 = 0
    · exact Or.inr (Or.inr ⟨⟨_, _, _, numOf_small h3⟩, decide_eq_false (by omega)⟩)
    · exact Or.inr (Or.inr ⟨⟨_, _, _, numOf_norm h3 h1⟩, decide_eq_false (by omega)⟩)

theorem field_kind (k : Int) (s : Bool) (p : Option Addr) (L C : Nat) (e : Int) (m : Bool) (w : World) :
    Sem.run Try.prog (Instr.field 32 (.agg #[.int .i64 k, .bool s, .slice p L C, .int .i64 e, .bool m]) 0) w = .ok (.int .i64 k) w := by kernel_rfl

set_option maxHeartbeats 1000000 in
theorem risnan_any (a : Nat) (w : World) (ha : a < 4294967296) :
    Calls Try.prog 18 #[.int .u32 a] w fun e w' => e = .returned (.bool (nanN a)) ∧ Q w w' := by
  rcases nanN_cases a with ⟨hn, hb⟩ | ⟨⟨s, hn⟩, hb⟩ | ⟨⟨s, n, e, hn⟩, hb⟩
  all_goals
    rw [hb]
    have HN : Hid _ := hn
    clear hn hb
    have hfk := field_kind
    go_enter Try.func18, Try.ntmps18
    go_wp2_with fail
    refine (num_any a _ ha).mono ?_
    rintro x w1 ⟨v1, rfl, hv1, q1⟩
    rw [HN.out] at hv1
  · obtain ⟨b, ee, m, rfl⟩ := hv1
    go_wp2_with fail
    go_ret
    exact ⟨rfl, q1⟩
  · obtain ⟨ee, m, rfl⟩ := hv1
    go_wp2_with fail
    go_ret
    exact ⟨rfl, q1⟩
  · obtain ⟨nv, rfl, p, bb, L, C, rfl, hI⟩ := hv1
    go_wp2_with fail
    go_ret
    exact ⟨rfl, q1⟩

/-- Rises with the value. -/
def keyR (a : Nat) : Int := if a < 2147483648 then (a : Int) else -((a - 2147483648 : Nat) : Int)
def leastR (a b : Nat) : Nat := if keyR a < keyR b ∨ (keyR a = keyR b ∧ 2147483648 ≤ a) then a else b
def greatestR (a b : Nat) : Nat := if keyR b < keyR a ∨ (keyR a = keyR b ∧ a < 2147483648) then a else b
end Go.Proofs.Ytedafbbpcpebbab
