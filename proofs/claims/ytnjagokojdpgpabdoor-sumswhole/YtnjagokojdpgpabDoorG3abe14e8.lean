/- What the reference's Down returns of a whole number in memory: it shifted down, and whether something was left. -/
import Derived.Test.YtnjagokojdpgpabDoorG273d4c77
namespace Go.Proofs.YtnjagokojdpgpabDoor
open Go.RowKit

/-- Is there something in the k lowest bits? -/
def restB (a k : Nat) : Bool := !decide (a % 2 ^ k = 0)
theorem rest_step (a k : Nat) : a % 2 ^ (k + 1) = 2 ^ k * (a / 2 ^ k % 2) + a % 2 ^ k := by
  rw [Nat.pow_succ, Nat.mod_mul, Nat.add_comm]
theorem restB_t {a k : Nat} (h : restB a k = true) : restB a (k + 1) = true := by
  unfold restB at *
  have := rest_step a k
  simp at h ⊢
  omega
theorem restB_f {a k : Nat} (h : restB a k = false) : restB a (k + 1) = ((bitV a k : Int) == 1) := by
  unfold restB bitV at *
  have h1 := rest_step a k
  simp at h
  rw [h, Nat.add_zero] at h1
  have hp := Nat.two_pow_pos k
  rcases (by omega : a / 2 ^ k % 2 = 0 ∨ a / 2 ^ k % 2 = 1) with e | e
  · rw [h1, e]; simp
  · rw [h1, e]; simp
theorem restB_zero (a : Nat) : restB a 0 = false := by unfold restB; rw [Nat.pow_zero, Nat.mod_one]; rfl
theorem restB_all {a k n : Nat} (h : a < 2 ^ k) (hn : k ≤ n) : restB a k = restB a n := by
  unfold restB
  rw [Nat.mod_eq_of_lt h, Nat.mod_eq_of_lt (Nat.lt_of_lt_of_le h (Nat.pow_le_pow_right (by decide) hn))]

/-- One digit of what is shifted down. -/
theorem down_dig {a n q r k : Nat} (hn : n = 32 * q + r) (hr : r < 32) :
    (dig a (k + q) + dig a (k + q + 1) * 4294967296) / 2 ^ r % 4294967296 = dig (a / 2 ^ n) k := by
  unfold dig
  rw [quo_succ]
  have e : a / 2 ^ n / 4294967296 ^ k = a / 4294967296 ^ (k + q) / 2 ^ r := by
    rw [hn, Nat.pow_add 2, ← base_pow, Nat.div_div_eq_div_mul, Nat.div_div_eq_div_mul, Nat.pow_add]
    congr 1
    rw [Nat.mul_comm (4294967296 ^ k), Nat.mul_assoc, Nat.mul_comm (2 ^ r), ← Nat.mul_assoc]
  rw [e]
  generalize a / 4294967296 ^ (k + q) = x
  have e2 : x % 4294967296 + x / 4294967296 % 4294967296 * 4294967296 = x % 18446744073709551616 := by omega
  rw [e2]
  have e3 : 18446744073709551616 = 2 ^ r * (4294967296 * 2 ^ (32 - r)) := by
    rw [show (4294967296 : Nat) = 2 ^ 32 from rfl, ← Nat.pow_add, ← Nat.pow_add, show r + (32 + (32 - r)) = 64 by omega]
  rw [e3, Nat.mod_mul, Nat.mul_comm (2 ^ r), Nat.add_mul_div_right _ _ (Nat.two_pow_pos r), Nat.div_eq_of_lt (Nat.mod_lt _ (Nat.two_pow_pos r)), Nat.zero_add]
  rw [Nat.mod_mod_of_dvd _ ⟨_, rfl⟩]

set_option maxHeartbeats 4000000 in
theorem down_any (va : Value) (a n : Nat) (w : World) (ha : NatAt w va a) (hn : n ≤ 20000) :
    Calls Tryd.prog 58 #[va, .int .i64 n] w fun e w' => ∃ v, e = .returned (.tuple #[v, .bool (restB a n)]) ∧ NatAt w' v (a / 2 ^ n) ∧ Q w w' := by
  have haN := ha
  obtain ⟨pa, ba, La, Ca, rfl, ha⟩ := ha
  have hlen := ha.len
  obtain ⟨q, r, hq, hr⟩ : ∃ q r : Nat, n = 32 * q + r ∧ r < 32 := ⟨n / 32, n % 32, by omega, by omega⟩
  obtain ⟨e1, e2⟩ := i64_quo32 n q r hq hr
  have HN : Hid (n = 32 * q + r) := hq
  have hq6 : q ≤ 625 := by omega
  have hbig : a < 2 ^ (32 * La) := by have := ha.hi; rw [base_pow] at this; exact this
  obtain ⟨N1, hN1⟩ : ∃ N1, N1 = min n (32 * La) := ⟨_, rfl⟩
  have HN1 : Hid _ := hN1
  clear hq
  go_enter Tryd.func58, Tryd.ntmps58
  go_wp2
  go_loopg [6, 7] N1 (fun g s6 s7 wr => wr = w ∧ ∃ k : Nat, k ≤ N1 ∧ g = N1 - k ∧ s6 = .bool (restB a k) ∧ s7 = .int .i64 k)
  case atStart => exact ⟨rfl, 0, Nat.zero_le _, rfl, by rw [restB_zero], rfl⟩
  case round =>
    obtain ⟨rfl, k, hk, rfl, rfl, rfl⟩ := hrel
    by_cases hk1 : k < N1
    · have h1 : (k : Int) < (n : Int) := by omega
      have h2 : (k : Int) < 32 * (La : Int) := by omega
      clear hN1
      cases hb : restB a k
      · have HF : Hid _ := restB_f hb
        go_wp2_with fail
        refine (bit_any _ a k _ haN (by omega)).mono ?_
        rintro e w' ⟨rfl, rfl⟩
        go_wp2_with fail
        go_roundg (N1 - (k + 1))
        case measure => go_light; omega
        case rel => go_light; exact ⟨rfl, k + 1, by omega, rfl, congrArg Value.bool (by rw [HF.out]), by simp⟩
      · have HT : Hid _ := restB_t hb
        go_wp2_with fail
        go_roundg (N1 - (k + 1))
        case measure => go_light; omega
        case rel => go_light; exact ⟨rfl, k + 1, by omega, rfl, congrArg Value.bool (by rw [HT.out]), by simp⟩
    · obtain rfl : k = N1 := by omega
      have hN2 := hN1
      by_cases hge : 32 * La ≤ n
      · have h2 : ¬ (k : Int) < 32 * (La : Int) := by omega
        have h3 : (32 * (La : Int)) ≤ (n : Int) := by omega
        have hz : a / 2 ^ n = 0 := Nat.div_eq_of_lt (Nat.lt_of_lt_of_le hbig (Nat.pow_le_pow_right (by decide) hge))
        have hr1 : restB a k = restB a n := by rw [show k = 32 * La by omega]; exact restB_all hbig hge
        have HZ : Hid _ := hz
        have HR : Hid _ := hr1
        clear hN1 hN2 hr1 hz
        by_cases h1 : k < n
        · have h1z : (k : Int) < (n : Int) := by omega
          go_wp2_with fail
          go_ret2
          exact ⟨_, ret_vb HR.out, by rw [HZ.out]; exact nat_nil _, Q.refl _⟩
        · have h1z : ¬ (k : Int) < (n : Int) := by omega
          go_wp2_with fail
          go_ret2
          exact ⟨_, ret_vb HR.out, by rw [HZ.out]; exact nat_nil _, Q.refl _⟩
      · obtain rfl : k = n := by omega
        have h1 : ¬ (k : Int) < (k : Int) := by omega
        have h3 : ¬ (32 * (La : Int)) ≤ (k : Int) := by omega
        obtain ⟨M, hM, hM0⟩ : ∃ M, La = q + M ∧ 0 < M := ⟨La - q, by have := HN.out; omega, by have := HN.out; omega⟩
        have hMz : (La : Int) - (q : Int) = (M : Int) := by omega
        have hmk := run_make_row' (P := Tryd.prog) 36 23 (.int .u32 0) 4 Tryd.underlying36 info_u32 rfl .i64 .i64 (M) (by omega) (by omega)
        obtain rfl := ha.ptr (by omega)
        have HM : Hid _ := hM
        have hM4 : M ≤ 400 := by omega
        clear hN1 hN2 hM
        go_wp2
        clear hmk
        go_loopg [9] (M) (fun g s9 wx => ∃ i : Nat, i ≤ M ∧ g = M - i ∧ s9 = .int .i64 i ∧ Part wr wx (M) (a / 2 ^ k) i)
        case atStart => exact ⟨0, Nat.zero_le _, rfl, rfl, part_start _ _ _⟩
        case round =>
          obtain ⟨i, hi, rfl, rfl, hP⟩ := hrel
          by_cases hiM : i < M
          · have hz1 : (i : Int) < (M : Int) := by omega
            have hLa := HM.out
            have f1 := part_open hP hiM
            have f2 := hP.row.frozen i
            have c1 := hP.q.cell (ha.cell (i + q) (by omega))
            have d1 := dig_lt a (i + q)
            have d2 := dig_lt a (i + q + 1)
            have hD := down_dig (a := a) (k := i) HN.out hr
            have hor := or_hi _ _ d1 d2
            obtain ⟨X, hX⟩ : ∃ X, X = dig a (i + q) + dig a (i + q + 1) * 4294967296 := ⟨_, rfl⟩
            have hXb : X ≤ 18446744073709551615 := by omega
            have hXd : X / 2 ^ r ≤ X := Nat.div_le_self _ _
            have eX : (X : Int) / 2 ^ r = ((X / 2 ^ r : Nat) : Int) := by rw [Int.natCast_ediv, Int.natCast_pow]; rfl
            have hmask : bits .and .u64 ((X : Int) / 2 ^ r) 4294967295 = (dig (a / 2 ^ k) i : Int) := by
              rw [eX, and_mask ((X / 2 ^ r : Nat) : Int) (Int.natCast_nonneg _) (Int.ofNat_le.2 (Nat.le_trans hXd hXb)), ← hD, ← hX]; rfl
            have dd := dig_lt (a / 2 ^ k) i
            have HX : Hid _ := hX
            by_cases hlast : i + q + 1 < La
            · have hlz : (i : Int) + (q : Int) + 1 < (La : Int) := by omega
              have c2 := hP.q.cell (ha.cell (i + q + 1) hlast)
              rw [← hX] at hor
              have hiq : (i : Int) + (q : Int) < (La : Int) := by omega
              clear hX hD eX hXd hLa
              go_wp2
              go_roundg (M - (i + 1))
              case measure => go_light; omega
              case rel => go_light; exact ⟨i + 1, by omega, rfl, by simp, part_step' hP rfl⟩
            · have hlz : ¬ (i : Int) + (q : Int) + 1 < (La : Int) := by omega
              have d0 := dig_end ha.hi (i := i + q + 1) (by omega)
              have eX2 : X = dig a (i + q) := by rw [hX, d0]; omega
              subst eX2
              have hiq : (i : Int) + (q : Int) < (La : Int) := by omega
              clear hX hD eX hXd d0 hor HX hLa
              go_wp2
              go_roundg (M - (i + 1))
              case measure => go_light; omega
              case rel => go_light; exact ⟨i + 1, by omega, rfl, by simp, part_step' hP rfl⟩
          · obtain rfl : M = i := by omega
            have hz1 : ¬ (M : Int) < (M : Int) := by omega
            go_wp2_with fail
            refine (trimmed_any _ (M) (M) (a / 2 ^ k) _ (part_done hP) ?_ hM4 (Nat.le_refl _)).mono ?_
            · have h1 := ha.hi
              have h2 := HM.out
              have h3 := HN.out
              rw [Nat.div_lt_iff_lt_mul (Nat.two_pow_pos k), base_pow, ← Nat.pow_add]
              exact Nat.lt_of_lt_of_le hbig (Nat.pow_le_pow_right (by decide) (by omega))
            rintro e w' ⟨L', C', rfl, hN, rfl⟩
            go_wp2_with fail
            go_ret2
            exact ⟨_, rfl, ⟨_, _, _, _, rfl, hN⟩, hP.q⟩
end Go.Proofs.YtnjagokojdpgpabDoor
