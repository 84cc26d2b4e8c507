/- What the reference's Up returns: a whole number in memory times a power of two. -/
import Derived.Test.YtedafbbpcpebbaaG2a1f5096
import Derived.Test.YtedafbbpcpebbaaGb6a85d33
namespace Go.Proofs.Ytedafbbpcpebbaa
open Go.RowKit

/-- The row that Up fills: digits of v below k + q, c there, 0 above. -/
structure UpRow (w wr : World) (M v k q c : Nat) : Prop where
  kept : Q w wr
  row : wr.rowIs w.heap.size 23 M (fun j => .int .u32 (if j < k + q then (dig v j : Int) else if j = k + q then (c : Int) else 0))
theorem up_cell {w wr : World} {M v k q c : Nat} (h : UpRow w wr M v k q c) (hk : k + q < M) : wr.cell? ⟨w.heap.size, k + q, none⟩ = some (.int .u32 c) := by
  rw [h.row.cell hk, if_neg (by omega), if_pos rfl]
theorem up_cell2 {w wr : World} {M v k q c : Nat} (h : UpRow w wr M v k q c) (hk : k + q + 1 < M) (y : Value) :
    (wr.setCell ⟨w.heap.size, k + q, none⟩ y).cell? ⟨w.heap.size, k + q + 1, none⟩ = some (.int .u32 0) := by
  rw [(h.row.set (k + q) y).cell hk, if_neg (by omega), if_neg (by omega), if_neg (by omega)]
theorem up_step {w wr : World} {M v k q c : Nat} (h : UpRow w wr M v k q c) {Y : Int} (hY : Y = dig v (k + q)) (Z : Nat) :
    UpRow w ((wr.setCell ⟨w.heap.size, k + q, none⟩ (.int .u32 Y)).setCell ⟨w.heap.size, k + q + 1, none⟩ (.int .u32 Z)) M v (k + 1) q Z := by
  refine ⟨(h.kept.set (Nat.le_refl _) _).set (Nat.le_refl _) _, ((h.row.set _ _).set _ _).congr (fun j _ => ?_)⟩
  by_cases e1 : j = k + q + 1
  · subst e1; rw [if_pos rfl, if_neg (by omega), if_pos (by omega)]
  · rw [if_neg e1]
    by_cases e2 : j = k + q
    · subst e2; rw [if_pos rfl, if_pos (by omega), hY]
    · rw [if_neg e2]
      by_cases e3 : j < k + q
      · rw [if_pos e3, if_pos (by omega)]
      · rw [if_neg e3, if_neg e2, if_neg (by omega), if_neg (by omega)]

/-- a * 2^n behind q + k digits. -/
theorem up_quo (a q r k : Nat) : a * 2 ^ (32 * q + r) / 4294967296 ^ (k + q) = a * 2 ^ r / 4294967296 ^ k := by
  have hp : 0 < 4294967296 ^ q := Nat.pow_pos (by decide)
  rw [Nat.pow_add, ← base_pow, Nat.pow_add, Nat.mul_comm (4294967296 ^ q) (2 ^ r), ← Nat.mul_assoc, Nat.mul_div_mul_right _ _ hp]

theorem up_low (a q r j : Nat) (hj : j < q) : dig (a * 2 ^ (32 * q + r)) j = 0 := by
  obtain ⟨d, rfl⟩ : ∃ d, q = j + (d + 1) := ⟨q - j - 1, by omega⟩
  have hp : 0 < 4294967296 ^ j := Nat.pow_pos (by decide)
  unfold dig
  rw [Nat.pow_add 2, ← base_pow, Nat.pow_add 4294967296, Nat.pow_succ]
  rw [show a * (4294967296 ^ j * (4294967296 ^ d * 4294967296) * 2 ^ r) = a * 2 ^ r * 4294967296 ^ d * 4294967296 * 4294967296 ^ j by
    rw [Nat.mul_comm (4294967296 ^ j), Nat.mul_assoc, Nat.mul_comm (4294967296 ^ j), ← Nat.mul_assoc, ← Nat.mul_assoc, Nat.mul_comm _ (2 ^ r), ← Nat.mul_assoc, ← Nat.mul_assoc, Nat.mul_comm (2 ^ r) a]]
  rw [Nat.mul_div_cancel _ hp, Nat.mul_mod_left]

theorem up_dig {a k r c : Nat} (hr : r < 32) (hc : c < 2 ^ r) (h : a * 2 ^ r / 4294967296 ^ k = a / 4294967296 ^ k * 2 ^ r + c) :
    c ||| (dig a k * 2 ^ r % 4294967296) = a * 2 ^ r / 4294967296 ^ k % 4294967296 ∧
    a * 2 ^ r / 4294967296 ^ (k + 1) = a / 4294967296 ^ (k + 1) * 2 ^ r + dig a k * 2 ^ r / 4294967296 ∧ dig a k * 2 ^ r / 4294967296 < 2 ^ r := by
  rw [quo_succ, quo_succ, h]
  unfold dig
  generalize a / 4294967296 ^ k = x
  obtain ⟨s, hs⟩ : ∃ s, s = 32 - r := ⟨_, rfl⟩
  have hB : 4294967296 = 2 ^ s * 2 ^ r := by rw [← Nat.pow_add, show s + r = 32 by omega]
  have hp := Nat.two_pow_pos r
  have hps := Nat.two_pow_pos s
  -- x = 2^32 * u + y, y = 2^s * t + z
  obtain ⟨u, y, hx, hy⟩ : ∃ u y, x = 4294967296 * u + y ∧ y < 4294967296 := ⟨x / 4294967296, x % 4294967296, by omega, by omega⟩
  have hxm : x % 4294967296 = y := by omega
  have hxd : x / 4294967296 = u := by omega
  rw [hxm, hxd]
  obtain ⟨t, z, hy2, hz⟩ : ∃ t z, y = 2 ^ s * t + z ∧ z < 2 ^ s := ⟨y / 2 ^ s, y % 2 ^ s, (Nat.div_add_mod y (2 ^ s)).symm, Nat.mod_lt _ hps⟩
  have ht : t < 2 ^ r := by
    rcases Nat.lt_or_ge t (2 ^ r) with g | g
    · exact g
    · have := Nat.mul_le_mul_left (2 ^ s) g
      omega
  have hyr : y * 2 ^ r = 4294967296 * t + z * 2 ^ r := by
    rw [hy2, Nat.add_mul, hB, Nat.mul_right_comm]
  have hzr : z * 2 ^ r + 2 ^ r ≤ 4294967296 := by
    have := Nat.mul_le_mul_right (2 ^ r) (show z + 1 ≤ 2 ^ s from hz)
    rw [Nat.add_mul, Nat.one_mul, ← hB] at this
    exact this
  have hxr : x * 2 ^ r = 4294967296 * (u * 2 ^ r) + y * 2 ^ r := by rw [hx, Nat.add_mul, Nat.mul_assoc]
  have m1 : y * 2 ^ r % 4294967296 = z * 2 ^ r := by omega
  have d1 : y * 2 ^ r / 4294967296 = t := by omega
  rw [m1, d1, hxr, hyr]
  refine ⟨?_, ?_, ht⟩
  · have : c ||| z * 2 ^ r = z * 2 ^ r + c := by
      rw [Nat.or_comm, Nat.mul_comm z, ← Nat.two_pow_add_eq_or_of_lt hc z]
    rw [this]; omega
  · omega

theorem u64_wrap {x : Int} (h0 : 0 ≤ x) (h1 : x ≤ 18446744073709551615) : IntKind.u64.wrap x = x := by rw [IntKind.wrap_u64]; omega

set_option maxHeartbeats 4000000 in
theorem up_any (va : Value) (a n : Nat) (w : World) (ha : NatAt w va a) (hs : a * 2 ^ n < cap) :
    Calls Try.prog 57 #[va, .int .i64 n] w fun e w' => ∃ v, e = .returned v ∧ NatAt w' v (a * 2 ^ n) ∧ Q w w' := by
  obtain ⟨pa, ba, La, Ca, rfl, ha⟩ := ha
  rcases Nat.eq_zero_or_pos La with rfl | hpos
  · have h0 := ha.pos.2 rfl
    subst h0
    go_enter Try.func57, Try.ntmps57
    go_wp2
    go_ret
    rw [Nat.zero_mul]
    exact ⟨_, rfl, nat_nil w, Q.refl w⟩
  · obtain ⟨q, r, hq, hr⟩ : ∃ q r : Nat, n = 32 * q + r ∧ r < 32 := ⟨n / 32, n % 32, by omega, by omega⟩
    obtain ⟨e1, e2⟩ := i64_quo32 n q r hq hr
    have hne : ((La : Int) == 0) = false := by simp; omega
    obtain ⟨M, hM⟩ : ∃ M, M = La + q + 1 := ⟨_, rfl⟩
    have hMz : (La : Int) + (q : Int) + 1 = (M : Int) := by omega
    have HM : Hid (M = La + q + 1) := hM
    have hbig : 32 * (La - 1) + n < 12480 := by
      have h1 := ha.lo hpos
      have h2 : 2 ^ (32 * (La - 1)) * 2 ^ n ≤ a * 2 ^ n := by rw [← base_pow]; exact Nat.mul_le_mul_right _ h1
      have h3 : 2 ^ (32 * (La - 1) + n) < 2 ^ (32 * capLen) := by rw [Nat.pow_add, ← base_pow capLen]; exact Nat.lt_of_le_of_lt h2 hs
      have h4 := (Nat.pow_lt_pow_iff_right (by decide)).1 h3
      exact h4
    have hM4 : M ≤ 400 := by omega
    have hn : n ≤ 12480 := by omega
    have HL : Hid (a * 2 ^ n < 4294967296 ^ M) := by
      have h1 := ha.hi
      show a * 2 ^ n < 4294967296 ^ M
      rw [hM, hq, Nat.pow_add 2, ← base_pow, Nat.pow_succ, Nat.pow_add, Nat.mul_comm (4294967296 ^ q), ← Nat.mul_assoc]
      have h2 : 2 ^ r < 4294967296 := by
        have : 2 ^ r < 2 ^ 32 := Nat.pow_lt_pow_right (by decide) hr
        exact this
      have h3 : a * 2 ^ r < 4294967296 ^ La * 4294967296 := Nat.mul_lt_mul_of_lt_of_lt h1 h2
      have h4 : a * 2 ^ r * 4294967296 ^ q < 4294967296 ^ La * 4294967296 * 4294967296 ^ q := Nat.mul_lt_mul_of_pos_right h3 (Nat.pow_pos (by decide))
      rw [Nat.mul_right_comm (4294967296 ^ La)] at h4
      exact h4
    have HQ0 : Hid (∀ k, a * 2 ^ n / 4294967296 ^ (k + q) = a * 2 ^ r / 4294967296 ^ k) := by
      intro k; rw [hq]; exact up_quo a q r k
    have HZ : Hid (∀ j, j < q → dig (a * 2 ^ n) j = 0) := by
      intro j hj; rw [hq]; exact up_low a q r j hj
    clear hM hq hbig
    have hmk := run_make_row' (P := Try.prog) 36 23 (.int .u32 0) 4 Try.underlying36 info_u32 rfl .i64 .i64 M (by omega) (by omega)
    obtain rfl := ha.ptr hpos
    go_enter Try.func57, Try.ntmps57
    go_wp2
    clear hmk
    go_loopg [6] La (fun g s6 wr => ∃ k c : Nat, k ≤ La ∧ g = La - k ∧ s6 = .int .i64 k ∧ UpRow w wr M (a * 2 ^ n) k q c ∧ c < 2 ^ r ∧ a * 2 ^ r / 4294967296 ^ k = a / 4294967296 ^ k * 2 ^ r + c)
    case atStart =>
      refine ⟨0, 0, Nat.zero_le _, rfl, rfl, ⟨(Q.refl w).cells _ _, (World.rowIs_made w _ M 23).congr (fun j _ => ?_)⟩, Nat.two_pow_pos r, by rw [quo_zero, quo_zero]; rfl⟩
      have hz : ∀ j, j < q → dig (a * 2 ^ n) j = 0 := HZ.out
      by_cases h1 : j < 0 + q
      · rw [if_pos h1, hz j (by omega)]; rfl
      · rw [if_neg h1]; split <;> rfl
    case round =>
      obtain ⟨k, c, hk, rfl, rfl, hR, hc, hcq⟩ := hrel
      by_cases hkL : k < La
      · have hkz : (k : Int) < (La : Int) := by omega
        have ca := hR.kept.cell (ha.cell k hkL)
        have hd := dig_lt a k
        have hM' := HM.out
        have f1 := up_cell hR (by omega)
        have f2 := hR.row.frozen (k + q)
        have f3 := up_cell2 hR (by omega)
        have f4 : ∀ y, (wr.setCell ⟨w.heap.size, k + q, none⟩ y).frozen? ⟨w.heap.size, k + q + 1, none⟩ = false := fun y => (hR.row.set _ y).frozen _
        have hUD := up_dig hr hc hcq
        have h2r : 2 ^ r ≤ 2147483648 := Nat.pow_le_pow_right (n := 2) (by decide) (show r ≤ 31 by omega)
        obtain ⟨X, hX⟩ : ∃ X, X = dig a k * 2 ^ r := ⟨_, rfl⟩
        have hXb : X < 18446744073709551616 := by
          rw [hX]
          have := Nat.mul_le_mul (show dig a k ≤ 4294967295 by omega) h2r
          omega
        have hw : IntKind.u64.wrap ((dig a k : Int) * 2 ^ r) = (X : Int) := by
          have e : (dig a k : Int) * 2 ^ r = (X : Int) := by rw [hX, Int.natCast_mul, Int.natCast_pow]; rfl
          rw [e]; exact u64_wrap (by omega) (by omega)
        rw [← hX] at hUD
        have hm := and_mask (X : Int) (by omega) (by omega)
        have hor : bits .or .u32 (c : Int) ((X : Int) % 4294967296) = (dig (a * 2 ^ n) (k + q) : Int) := by
          have e : ((X : Int) % 4294967296) = ((X % 4294967296 : Nat) : Int) := by omega
          have e2 : c ||| X % 4294967296 = dig (a * 2 ^ n) (k + q) := by rw [hUD.1]; unfold dig; rw [HQ0.out k]
          rw [e, u32_or_nat _ _ (by omega) (by omega), e2]
        have HU : Hid _ := hUD.2
        have HX : Hid _ := hX
        have hdd := dig_lt (a * 2 ^ n) (k + q)
        clear hUD hX hcq hM'
        go_wp2
        go_roundg (La - (k + 1))
        case measure => go_light; omega
        case rel =>
          go_light
          refine ⟨k + 1, X / 4294967296, by omega, rfl, by simp, ?_, HU.out.2, HU.out.1⟩
          exact up_step hR rfl _
      · obtain rfl : k = La := by omega
        have hkz : ¬ (k : Int) < (k : Int) := by omega
        go_wp2_with fail
        refine (trimmed_any w.heap.size M M (a * 2 ^ n) wr (fun i hi => ?_) HL.out hM4 (Nat.le_refl _)).mono ?_
        · rw [hR.row.cell hi]
          have hM' := HM.out
          by_cases h1 : i < k + q
          · rw [if_pos h1]
          · obtain rfl : i = k + q := by omega
            rw [if_neg h1, if_pos rfl]
            have h2 := HQ0.out k
            rw [hcq, quo_end ha.hi, Nat.zero_mul, Nat.zero_add] at h2
            have h2r : 2 ^ r ≤ 2147483648 := Nat.pow_le_pow_right (n := 2) (by decide) (show r ≤ 31 by omega)
            unfold dig
            rw [h2, Nat.mod_eq_of_lt (by omega)]
        rintro e w' ⟨L', C', rfl, hN, rfl⟩
        go_wp2_with fail
        go_ret
        exact ⟨_, rfl, ⟨_, _, _, _, rfl, hN⟩, hR.kept⟩
end Go.Proofs.Ytedafbbpcpebbaa
/- What the reference's Down returns of a whole number in memory: it shifted down, and whether something was left. -/
namespace Go.Proofs.Ytedafbbpcpebbaa
open Go.RowKit

/-- Is there something in the k lowest bits? -/
def restB (a k : Nat) : Bool := !decide (a % 2 ^ k = 0)
theorem rest_step (a k : Nat) : a % 2 ^ (k + 1) = 2 ^ k * (a / 2 ^ k % 2) + a % 2 ^ k := by
  rw [Nat.pow_succ, Nat.mod_mul, Nat.add_comm]
theorem restB_t {a k : Nat} (h : restB a k = true) : restB a (k + 1) = true := by
  unfold restB at *
  have := rest_step a k
  simp at h ⊢
  omega
theorem restB_f {a k : Nat} (h : restB a k = false) : restB a (k + 1) = ((bitV a k : Int) == 1) := by
  unfold restB bitV at *
  have h1 := rest_step a k
  simp at h
  rw [h, Nat.add_zero] at h1
  have hp := Nat.two_pow_pos k
  rcases (by omega : a / 2 ^ k % 2 = 0 ∨ a / 2 ^ k % 2 = 1) with e | e
  · rw [h1, e]; simp
  · rw [h1, e]; simp
theorem restB_zero (a : Nat) : restB a 0 = false := by unfold restB; rw [Nat.pow_zero, Nat.mod_one]; rfl
theorem restB_all {a k n : Nat} (h : a < 2 ^ k) (hn : k ≤ n) : restB a k = restB a n := by
  unfold restB
  rw [Nat.mod_eq_of_lt h, Nat.mod_eq_of_lt (Nat.lt_of_lt_of_le h (Nat.pow_le_pow_right (by decide) hn))]

/-- One digit of what is shifted down. -/
theorem down_dig {a n q r k : Nat} (hn : n = 32 * q + r) (hr : r < 32) :
    (dig a (k + q) + dig a (k + q + 1) * 4294967296) / 2 ^ r % 4294967296 = dig (a / 2 ^ n) k := by
  unfold dig
  rw [quo_succ]
  have e : a / 2 ^ n / 4294967296 ^ k = a / 4294967296 ^ (k + q) / 2 ^ r := by
    rw [hn, Nat.pow_add 2, ← base_pow, Nat.div_div_eq_div_mul, Nat.div_div_eq_div_mul, Nat.pow_add]
    congr 1
    rw [Nat.mul_comm (4294967296 ^ k), Nat.mul_assoc, Nat.mul_comm (2 ^ r), ← Nat.mul_assoc]
  rw [e]
  generalize a / 4294967296 ^ (k + q) = x
  have e2 : x % 4294967296 + x / 4294967296 % 4294967296 * 4294967296 = x % 18446744073709551616 := by omega
  rw [e2]
  have e3 : 18446744073709551616 = 2 ^ r * (4294967296 * 2 ^ (32 - r)) := by
    rw [show (4294967296 : Nat) = 2 ^ 32 from rfl, ← Nat.pow_add, ← Nat.pow_add, show r + (32 + (32 - r)) = 64 by omega]
  rw [e3, Nat.mod_mul, Nat.mul_comm (2 ^ r), Nat.add_mul_div_right _ _ (Nat.two_pow_pos r), Nat.div_eq_of_lt (Nat.mod_lt _ (Nat.two_pow_pos r)), Nat.zero_add]
  rw [Nat.mod_mod_of_dvd _ ⟨_, rfl⟩]

set_option maxHeartbeats 4000000 in
theorem down_any (va : Value) (a n : Nat) (w : World) (ha : NatAt w va a) (hn : n ≤ 20000) :
    Calls Try.prog 75 #[va, .int .i64 n] w fun e w' => ∃ v, e = .returned (.tuple #[v, .bool (restB a n)]) ∧ NatAt w' v (a / 2 ^ n) ∧ Q w w' := by
  have haN := ha
  obtain ⟨pa, ba, La, Ca, rfl, ha⟩ := ha
  have hlen := ha.len
  obtain ⟨q, r, hq, hr⟩ : ∃ q r : Nat, n = 32 * q + r ∧ r < 32 := ⟨n / 32, n % 32, by omega, by omega⟩
  obtain ⟨e1, e2⟩ := i64_quo32 n q r hq hr
  have HN : Hid (n = 32 * q + r) := hq
  have hq6 : q ≤ 625 := by omega
  have hbig : a < 2 ^ (32 * La) := by have := ha.hi; rw [base_pow] at this; exact this
  obtain ⟨N1, hN1⟩ : ∃ N1, N1 = min n (32 * La) := ⟨_, rfl⟩
  have HN1 : Hid _ := hN1
  clear hq
  go_enter Try.func75, Try.ntmps75
  go_wp2
  go_loopg [6, 7] N1 (fun g s6 s7 wr => wr = w ∧ ∃ k : Nat, k ≤ N1 ∧ g = N1 - k ∧ s6 = .bool (restB a k) ∧ s7 = .int .i64 k)
  case atStart => exact ⟨rfl, 0, Nat.zero_le _, rfl, by rw [restB_zero], rfl⟩
  case round =>
    obtain ⟨rfl, k, hk, rfl, rfl, rfl⟩ := hrel
    by_cases hk1 : k < N1
    · have h1 : (k : Int) < (n : Int) := by omega
      have h2 : (k : Int) < 32 * (La : Int) := by omega
      clear hN1
      cases hb : restB a k
      · have HF : Hid _ := restB_f hb
        go_wp2_with fail
        refine (bit_any _ a k _ haN (by omega)).mono ?_
        rintro e w' ⟨rfl, rfl⟩
        go_wp2_with fail
        go_roundg (N1 - (k + 1))
        case measure => go_light; omega
        case rel => go_light; exact ⟨rfl, k + 1, by omega, rfl, congrArg Value.bool (by rw [HF.out]), by simp⟩
      · have HT : Hid _ := restB_t hb
        go_wp2_with fail
        go_roundg (N1 - (k + 1))
        case measure => go_light; omega
        case rel => go_light; exact ⟨rfl, k + 1, by omega, rfl, congrArg Value.bool (by rw [HT.out]), by simp⟩
    · obtain rfl : k = N1 := by omega
      have hN2 := hN1
      by_cases hge : 32 * La ≤ n
      · have h2 : ¬ (k : Int) < 32 * (La : Int) := by omega
        have h3 : (32 * (La : Int)) ≤ (n : Int) := by omega
        have hz : a / 2 ^ n = 0 := Nat.div_eq_of_lt (Nat.lt_of_lt_of_le hbig (Nat.pow_le_pow_right (by decide) hge))
        have hr1 : restB a k = restB a n := by rw [show k = 32 * La by omega]; exact restB_all hbig hge
        have HZ : Hid _ := hz
        have HR : Hid _ := hr1
        clear hN1 hN2 hr1 hz
        by_cases h1 : k < n
        · have h1z : (k : Int) < (n : Int) := by omega
          go_wp2_with fail
          go_ret2
          exact ⟨_, ret_vb HR.out, by rw [HZ.out]; exact nat_nil _, Q.refl _⟩
        · have h1z : ¬ (k : Int) < (n : Int) := by omega
          go_wp2_with fail
          go_ret2
          exact ⟨_, ret_vb HR.out, by rw [HZ.out]; exact nat_nil _, Q.refl _⟩
      · obtain rfl : k = n := by omega
        have h1 : ¬ (k : Int) < (k : Int) := by omega
        have h3 : ¬ (32 * (La : Int)) ≤ (k : Int) := by omega
        obtain ⟨M, hM, hM0⟩ : ∃ M, La = q + M ∧ 0 < M := ⟨La - q, by have := HN.out; omega, by have := HN.out; omega⟩
        have hMz : (La : Int) - (q : Int) = (M : Int) := by omega
        have hmk := run_make_row' (P := Try.prog) 36 23 (.int .u32 0) 4 Try.underlying36 info_u32 rfl .i64 .i64 (M) (by omega) (by omega)
        obtain rfl := ha.ptr (by omega)
        have HM : Hid _ := hM
        have hM4 : M ≤ 400 := by omega
        clear hN1 hN2 hM
        go_wp2
        clear hmk
        go_loopg [9] (M) (fun g s9 wx => ∃ i : Nat, i ≤ M ∧ g = M - i ∧ s9 = .int .i64 i ∧ Part wr wx (M) (a / 2 ^ k) i)
        case atStart => exact ⟨0, Nat.zero_le _, rfl, rfl, part_start _ _ _⟩
        case round =>
          obtain ⟨i, hi, rfl, rfl, hP⟩ := hrel
          by_cases hiM : i < M
          · have hz1 : (i : Int) < (M : Int) := by omega
            have hLa := HM.out
            have f1 := part_open hP hiM
            have f2 := hP.row.frozen i
            have c1 := hP.q.cell (ha.cell (i + q) (by omega))
            have d1 := dig_lt a (i + q)
            have d2 := dig_lt a (i + q + 1)
            have hD := down_dig (a := a) (k := i) HN.out hr
            have hor := or_hi _ _ d1 d2
            obtain ⟨X, hX⟩ : ∃ X, X = dig a (i + q) + dig a (i + q + 1) * 4294967296 := ⟨_, rfl⟩
            have hXb : X ≤ 18446744073709551615 := by omega
            have hXd : X / 2 ^ r ≤ X := Nat.div_le_self _ _
            have eX : (X : Int) / 2 ^ r = ((X / 2 ^ r : Nat) : Int) := by rw [Int.natCast_ediv, Int.natCast_pow]; rfl
            have hmask : bits .and .u64 ((X : Int) / 2 ^ r) 4294967295 = (dig (a / 2 ^ k) i : Int) := by
              rw [eX, and_mask ((X / 2 ^ r : Nat) : Int) (Int.natCast_nonneg _) (Int.ofNat_le.2 (Nat.le_trans hXd hXb)), ← hD, ← hX]; rfl
            have dd := dig_lt (a / 2 ^ k) i
            have HX : Hid _ := hX
            by_cases hlast : i + q + 1 < La
            · have hlz : (i : Int) + (q : Int) + 1 < (La : Int) := by omega
              have c2 := hP.q.cell (ha.cell (i + q + 1) hlast)
              rw [← hX] at hor
              have hiq : (i : Int) + (q : Int) < (La : Int) := by omega
              clear hX hD eX hXd hLa
              go_wp2
              go_roundg (M - (i + 1))
              case measure => go_light; omega
              case rel => go_light; exact ⟨i + 1, by omega, rfl, by simp, part_step' hP rfl⟩
            · have hlz : ¬ (i : Int) + (q : Int) + 1 < (La : Int) := by omega
              have d0 := dig_end ha.hi (i := i + q + 1) (by omega)
              have eX2 : X = dig a (i + q) := by rw [hX, d0]; omega
              subst eX2
              have hiq : (i : Int) + (q : Int) < (La : Int) := by omega
              clear hX hD eX hXd d0 hor HX hLa
              go_wp2
              go_roundg (M - (i + 1))
              case measure => go_light; omega
              case rel => go_light; exact ⟨i + 1, by omega, rfl, by simp, part_step' hP rfl⟩
          · obtain rfl : M = i := by omega
            have hz1 : ¬ (M : Int) < (M : Int) := by omega
            go_wp2_with fail
            refine (trimmed_any _ (M) (M) (a / 2 ^ k) _ (part_done hP) ?_ hM4 (Nat.le_refl _)).mono ?_
            · have h1 := ha.hi
              have h2 := HM.out
              have h3 := HN.out
              rw [Nat.div_lt_iff_lt_mul (Nat.two_pow_pos k), base_pow, ← Nat.pow_add]
              exact Nat.lt_of_lt_of_le hbig (Nat.pow_le_pow_right (by decide) (by omega))
            rintro e w' ⟨L', C', rfl, hN, rfl⟩
            go_wp2_with fail
            go_ret2
            exact ⟨_, rfl, ⟨_, _, _, _, rfl, hN⟩, hP.q⟩
end Go.Proofs.Ytedafbbpcpebbaa
