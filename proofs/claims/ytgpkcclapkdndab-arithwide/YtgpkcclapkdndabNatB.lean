/- What the reference's Minus, NatOf, Low and Bit return of whole numbers in memory. -/
import Derived.Test.YtgpkcclapkdndabNatA
namespace Go.Proofs.Ytgpkcclapkdndab
open Go.RowKit

theorem minus_rel {w wr : World} {M d b k c : Nat} (X : Int) (c1 : Nat) (hX : X = dig d k) (hP : Part w wr M d k)
    (hQ : (d + b) / 4294967296 ^ (k + 1) = d / 4294967296 ^ (k + 1) + b / 4294967296 ^ (k + 1) + (c + dig d k + dig b k) / 4294967296)
    (h1 : c1 = (c + dig d k + dig b k) / 4294967296) (hk : k < M) (hc : c1 ≤ 1) :
    ∃ k' c' : Nat, k' ≤ M ∧ M - (k + 1) = M - k' ∧ Value.int .u64 c1 = .int .u64 c' ∧ Value.int .i64 ((k : Int) + 1) = .int .i64 k' ∧
      Part w (wr.setCell { block := w.heap.size, off := k } (.int .u32 X)) M d k' ∧ (d + b) / 4294967296 ^ k' = d / 4294967296 ^ k' + b / 4294967296 ^ k' + c' ∧ c' ≤ 1 :=
  ⟨k + 1, c1, by omega, rfl, rfl, by simp, part_step' hP hX, by rw [h1]; exact hQ, hc⟩

set_option maxHeartbeats 4000000 in
theorem minus_any (va vb : Value) (a b : Nat) (w : World) (ha : NatAt w va a) (hb : NatAt w vb b) (hs : a < cap) (hab : b ≤ a) :
    Calls Try.prog 65 #[va, vb] w fun e w' => ∃ v, e = .returned v ∧ NatAt w' v (a - b) ∧ Q w w' := by
  obtain ⟨pa, ba, La, Ca, rfl, ha⟩ := ha
  obtain ⟨pb, bb, Lb, Cb, rfl, hb⟩ := hb
  have hla := ha.len_cap (by omega)
  have hlb := hb.len_cap (by omega)
  obtain ⟨d, rfl⟩ : ∃ d, a = d + b := ⟨a - b, by omega⟩
  rw [Nat.add_sub_cancel]
  have hmk := run_make_row' (P := Try.prog) 40 22 (.int .u32 0) 4 Try.underlying40 info_u32 rfl .i64 .i64 La (by omega) (by omega)
  have q0 : (d + b) / 4294967296 ^ 0 = d / 4294967296 ^ 0 + b / 4294967296 ^ 0 + 0 := by rw [quo_zero, quo_zero, quo_zero]; rfl
  have HL : Hid (d < 4294967296 ^ La) := Nat.lt_of_le_of_lt (by omega) ha.hi
  go_enter Try.func65, Try.ntmps65
  go_wp2
  clear hmk
  go_loopg [6, 7] La (fun g s6 s7 wr => ∃ k c : Nat, k ≤ La ∧ g = La - k ∧ s6 = .int .u64 c ∧ s7 = .int .i64 k ∧ Part w wr La d k ∧ (d + b) / 4294967296 ^ k = d / 4294967296 ^ k + b / 4294967296 ^ k + c ∧ c ≤ 1)
  case atStart => exact ⟨0, 0, Nat.zero_le _, rfl, rfl, rfl, part_start w La _, q0, by decide⟩
  case round =>
    obtain ⟨k, c, hk, rfl, rfl, rfl, hP, hq, hc⟩ := hrel
    have hS := sum_dig hq
    have hda := dig_lt (d + b) k
    have hdb := dig_lt b k
    have hdd := dig_lt d k
    clear hq q0
    by_cases hkM : k < La
    · have hkz : (k : Int) < (La : Int) := by omega
      have f1 := part_open hP hkM
      have f2 := hP.row.frozen k
      obtain rfl := ha.ptr (by omega)
      have ca := hP.q.cell (ha.cell k hkM)
      have hlt : ((dig (d + b) k : Int) < (c : Int) + dig b k ∧ (dig (d + b) k : Int) + 4294967296 - ((c : Int) + dig b k) = dig d k ∧ 1 = (c + dig d k + dig b k) / 4294967296) ∨
          (¬ (dig (d + b) k : Int) < (c : Int) + dig b k ∧ (dig (d + b) k : Int) - ((c : Int) + dig b k) = dig d k ∧ 0 = (c + dig d k + dig b k) / 4294967296) := by
        have := hS.1
        omega
      have HS : Hid _ := hS.2
      clear hS
      have Hlt : Hid _ := hlt
      clear hlt
      by_cases h2 : k < Lb
      · obtain rfl := hb.ptr (by omega)
        have h2z : (k : Int) < (Lb : Int) := by omega
        have cb := hP.q.cell (hb.cell k h2)
        rcases Hlt.out with ⟨g1, g2, g3⟩ | ⟨g1, g2, g3⟩
        · have G3 : Hid _ := g3
          clear g3
          go_wp2
          go_roundg (La - (k + 1))
          case measure => go_light; omega
          case rel => go_light; exact minus_rel _ 1 rfl hP HS.out G3.out hkM (by decide)
        · have G3 : Hid _ := g3
          clear g3
          go_wp2
          go_roundg (La - (k + 1))
          case measure => go_light; omega
          case rel => go_light; exact minus_rel _ 0 rfl hP HS.out G3.out hkM (by decide)
      · have h2z : ¬ (k : Int) < (Lb : Int) := by omega
        have e2 := dig_end hb.hi (i := k) (by omega)
        have E2 : Hid _ := e2
        rcases Hlt.out with ⟨g1, g2, g3⟩ | ⟨g1, g2, g3⟩
        · have G3 : Hid _ := g3
          have g1' : (dig (d + b) k : Int) < (c : Int) := by omega
          have g2' : (dig (d + b) k : Int) + 4294967296 - (c : Int) = dig d k := by omega
          clear g3 g1 g2 e2
          go_wp2
          go_roundg (La - (k + 1))
          case measure => go_light; omega
          case rel => go_light; exact minus_rel _ 1 rfl hP HS.out G3.out hkM (by decide)
        · have G3 : Hid _ := g3
          have g1' : ¬ (dig (d + b) k : Int) < (c : Int) := by omega
          have g2' : (dig (d + b) k : Int) - (c : Int) = dig d k := by omega
          clear g3 g1 g2 e2
          go_wp2
          go_roundg (La - (k + 1))
          case measure => go_light; omega
          case rel => go_light; exact minus_rel _ 0 rfl hP HS.out G3.out hkM (by decide)
    · have hkz : ¬ (k : Int) < (La : Int) := by omega
      obtain rfl : k = La := by omega
      go_wp2_with fail
      refine (trimmed_any _ k k d wr (part_done hP) HL.out (by omega) (Nat.le_refl _)).mono ?_
      rintro e w' ⟨L', C', rfl, hN, rfl⟩
      go_wp2_with fail
      go_ret
      exact ⟨_, rfl, ⟨_, _, _, _, rfl, hN⟩, hP.q⟩

/-- How many digits a number of 64 bits has. -/
def len64 (n : Nat) : Nat := if n = 0 then 0 else if n < 4294967296 then 1 else 2
theorem len64_unique {w : World} {p : Option Addr} {b L n : Nat} (h : NatIs w p b L n) (hn : n < 18446744073709551616) : L = len64 n := by
  have h2 := h.len_le (k := 2) (by omega)
  unfold len64
  by_cases h0 : n = 0
  · rw [if_pos h0]; exact h.pos.1 h0
  · rw [if_neg h0]
    have hL : L ≠ 0 := fun e => h0 (h.pos.2 e)
    by_cases h1 : n < 4294967296
    · rw [if_pos h1]
      have := h.len_le (k := 1) (by omega)
      omega
    · rw [if_neg h1]
      rcases (by omega : L = 1 ∨ L = 2) with e | e
      · subst e
        have := h.hi
        omega
      · exact e
/-- Two digits that lie somewhere. -/
theorem natAt_two {w : World} {b n C : Nat} (hn : n < 18446744073709551616) (h0 : w.cell? ⟨b, 0, none⟩ = some (.int .u32 ((n : Int) % 4294967296))) (h1 : w.cell? ⟨b, 1, none⟩ = some (.int .u32 ((n : Int) / 4294967296))) :
    NatAt w (.slice (some ⟨b, 0, none⟩) (len64 n) C) n := by
  refine ⟨_, b, _, C, rfl, fun _ => rfl, fun i hi => ?_, ?_, ?_, ?_⟩
  · have hi2 : i < 2 := Nat.lt_of_lt_of_le hi (by unfold len64; split <;> (try split) <;> omega)
    rcases (by omega : i = 0 ∨ i = 1) with rfl | rfl
    · rw [h0]; congr 2; unfold dig; rw [quo_zero]; rfl
    · rw [h1]; congr 2; unfold dig; rw [Nat.pow_one]; omega
  · unfold len64; split
    · omega
    · split <;> omega
  · unfold len64; split
    · omega
    · split
      · intro _; omega
      · intro _; omega
  · unfold len64; split
    · omega
    · split <;> omega

set_option maxHeartbeats 800000 in
theorem natof_any (n : Nat) (w : World) (hn : n < 18446744073709551616) :
    Calls Try.prog 30 #[.int .u64 n] w fun e w' => ∃ C, e = .returned (.slice (some ⟨w.heap.size, 0, none⟩) (len64 n) C) ∧ w' = w.alloc (.cells #[.int .u32 ((n : Int) % 4294967296), .int .u32 ((n : Int) / 4294967296)] 22) := by
  have m1 := and_mask (n : Int) (by omega) (by omega)
  have hc : ∀ i, i < 2 → (w.alloc (.cells #[.int .u32 ((n : Int) % 4294967296), .int .u32 ((n : Int) / 4294967296)] 22)).cell? ⟨w.heap.size, i, none⟩ = some (.int .u32 (dig n i)) := by
    intro i hi
    have := (World.rowIs_alloc w #[.int .u32 ((n : Int) % 4294967296), .int .u32 ((n : Int) / 4294967296)] 22 (fun i => .int .u32 (dig n i)) (by
      intro i hi
      have hi' : i < 2 := hi
      rcases (by omega : i = 0 ∨ i = 1) with rfl | rfl
      · show some (Value.int .u32 ((n : Int) % 4294967296)) = _
        congr 2; unfold dig; rw [quo_zero]; rfl
      · show some (Value.int .u32 ((n : Int) / 4294967296)) = _
        congr 2; unfold dig; rw [Nat.pow_one]; omega)).cell (i := i) hi
    exact this
  go_enter Try.func30, Try.ntmps30
  go_wp2_with fail
  refine (trimmed_any _ 2 2 n _ hc (by omega) (by decide) (Nat.le_refl _)).mono ?_
  rintro e w' ⟨L', C', rfl, hN, rfl⟩
  rw [len64_unique hN hn]
  go_wp2_with fail
  go_ret
  exact ⟨_, rfl, rfl⟩
/-- The same, as the others are told. -/
theorem natof_nat (n : Nat) (w : World) (hn : n < 18446744073709551616) :
    Calls Try.prog 30 #[.int .u64 n] w fun e w' => ∃ v, e = .returned v ∧ NatAt w' v n ∧ Q w w' := by
  refine (natof_any n w hn).mono ?_
  rintro e w' ⟨C, rfl, rfl⟩
  refine ⟨_, rfl, natAt_two hn ?_ ?_, (Q.refl w).cells _ _⟩
  · simp [go_sem]
  · simp [go_sem]

theorem or_hi (x y : Nat) (hx : x < 4294967296) (hy : y < 4294967296) : bits .or .u64 (x : Int) ((y : Int) * 4294967296) = ((x + y * 4294967296 : Nat) : Int) := by
  have e : (y : Int) * 4294967296 = ((y * 4294967296 : Nat) : Int) := by omega
  rw [e, u64_or_nat _ _ (by omega) (by omega), Nat.or_comm, Nat.mul_comm y, show (4294967296 : Nat) = 2 ^ 32 from rfl, ← Nat.two_pow_add_eq_or_of_lt (i := 32) hx y, Nat.add_comm]

def lowV (n : Nat) : Nat := n % 18446744073709551616
set_option maxHeartbeats 800000 in
theorem low_any (va : Value) (n : Nat) (w : World) (ha : NatAt w va n) :
    Calls Try.prog 80 #[va] w fun e w' => e = .returned (.int .u64 (lowV n : Int)) ∧ w' = w := by
  obtain ⟨pa, ba, La, Ca, rfl, ha⟩ := ha
  have d0 := dig_lt n 0
  have d1 := dig_lt n 1
  have hlen := ha.len
  have hor := or_hi _ _ d0 d1
  have e0 : dig n 0 = n % 4294967296 := by unfold dig; rw [quo_zero]
  have e1 : dig n 1 = n / 4294967296 % 4294967296 := by unfold dig; rw [Nat.pow_one]
  have E0 : Hid _ := e0
  have E1 : Hid _ := e1
  clear e0 e1
  rcases Nat.eq_zero_or_pos La with rfl | hpos
  · have h0 := ha.pos.2 rfl
    subst h0
    go_enter Try.func80, Try.ntmps80
    go_wp2
    go_ret
    exact ⟨ret_int (by decide), rfl⟩
  · obtain rfl := ha.ptr hpos
    have c0 := ha.cell 0 hpos
    by_cases h1 : La = 1
    · subst h1
      go_enter Try.func80, Try.ntmps80
      go_wp2
      go_ret
      have := ha.hi
      rw [Nat.pow_one] at this
      exact ⟨ret_int (by have := E0.out; unfold lowV; omega), rfl⟩
    · have h1z : (1 : Int) < (La : Int) := by omega
      have h0z : (0 : Int) < (La : Int) := by omega
      have c1 := ha.cell 1 (by omega)
      go_enter Try.func80, Try.ntmps80
      go_wp2
      go_ret
      exact ⟨ret_int (by have := E0.out; have := E1.out; unfold lowV; omega), rfl⟩

/-- The i-th bit; the lowest 64. -/
def bitV (n i : Nat) : Nat := n / 2 ^ i % 2
theorem bitV_le (n i : Nat) : bitV n i ≤ 1 := by unfold bitV; omega

theorem dig_bit (n q r : Nat) (hr : r < 32) : dig n q / 2 ^ r % 2 = bitV n (32 * q + r) := by
  unfold dig bitV
  rw [Nat.pow_add, ← base_pow, ← Nat.div_div_eq_div_mul]
  generalize n / 4294967296 ^ q = x
  have e : 4294967296 = 2 ^ r * (2 * 2 ^ (31 - r)) := by rw [show 2 * 2 ^ (31 - r) = 2 ^ (31 - r + 1) by rw [Nat.pow_succ]; omega, ← Nat.pow_add, show r + (31 - r + 1) = 32 by omega]
  rw [e, Nat.mod_mul, Nat.mul_comm (2 ^ r), Nat.add_mul_div_right _ _ (Nat.two_pow_pos r), Nat.div_eq_of_lt (Nat.mod_lt _ (Nat.two_pow_pos r)), Nat.zero_add]
  rw [Nat.mod_mod_of_dvd _ ⟨_, rfl⟩]

set_option maxHeartbeats 800000 in
theorem bit_any (va : Value) (n i : Nat) (w : World) (ha : NatAt w va n) (hi : i ≤ 20000) :
    Calls Try.prog 81 #[va, .int .i64 i] w fun e w' => e = .returned (.int .i64 (bitV n i : Int)) ∧ w' = w := by
  obtain ⟨pa, ba, La, Ca, rfl, ha⟩ := ha
  obtain ⟨q, r, hq, hr⟩ : ∃ q r : Nat, i = 32 * q + r ∧ r < 32 := ⟨i / 32, i % 32, by omega, by omega⟩
  obtain ⟨e1, e2⟩ := i64_quo32 i q r hq hr
  have hB := dig_bit n q r hr
  rw [← hq] at hB
  have HN : Hid (i = 32 * q + r) := hq
  have hq6 : q ≤ 625 := by omega
  clear hq
  have hneg : ¬ (i : Int) < 0 := by omega
  have hlen := ha.len
  have hdq := dig_lt n q
  have hlt : dig n q / 2 ^ r ≤ dig n q := Nat.div_le_self _ _
  have hm : bits .and .u32 ((dig n q : Int) / 2 ^ r) 1 = (bitV n i : Int) := by
    have e : (dig n q : Int) / 2 ^ r = ((dig n q / 2 ^ r : Nat) : Int) := by rw [Int.natCast_ediv, Int.natCast_pow]; rfl
    rw [e, ← hB, show (1 : Int) = ((1 : Nat) : Int) from rfl, u32_and_nat _ _ (by omega) (by decide), Nat.and_one_is_mod]
  have hb2 := bitV_le n i
  by_cases h : q < La
  · have hz : ¬ (La : Int) ≤ (q : Int) := by omega
    obtain rfl := ha.ptr (by omega)
    have cq := ha.cell q h
    clear hB
    go_enter Try.func81, Try.ntmps81
    go_wp2
    go_ret
    exact ⟨rfl, rfl⟩
  · have hz : (La : Int) ≤ (q : Int) := by omega
    have h0 : n / 2 ^ i = 0 := Nat.div_eq_of_lt (by
      have h1 := ha.hi
      rw [base_pow] at h1
      exact Nat.lt_of_lt_of_le h1 (Nat.pow_le_pow_right (by decide) (by have := HN.out; omega)))
    have e0 : bitV n i = 0 := by unfold bitV; rw [h0]
    rw [e0]
    clear hm hB hb2
    go_enter Try.func81, Try.ntmps81
    go_wp2
    go_ret
    exact ⟨rfl, rfl⟩
end Go.Proofs.Ytgpkcclapkdndab
