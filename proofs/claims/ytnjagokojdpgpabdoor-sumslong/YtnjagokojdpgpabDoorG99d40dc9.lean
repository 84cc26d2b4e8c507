/- Numbers of five words: how many bits they have, above and below. -/
import Derived.Test.YtnjagokojdpgpabDoorG5a2cbab1
namespace Go.Proofs.YtnjagokojdpgpabDoor
open Go.RowKit
set_option linter.unusedVariables false
set_option linter.unusedSimpArgs false

theorem m64_pow (i : Nat) : m64 ^ i = 2 ^ (64 * i) := by rw [← two64, Nat.pow_mul]
theorem valW_above {N : Nat → Nat} {i : Nat} : ∀ k, (∀ j, i ≤ j → j < i + k → N j = 0) → valW N (i + k) = valW N i := by
  intro k
  induction k with
  | zero => intro _; rw [Nat.add_zero]
  | succ k ih =>
    intro h
    have e1 : valW N (i + (k + 1)) = valW N (i + k) + N (i + k) * m64 ^ (i + k) := valW_succ _ _
    rw [e1, ih (fun j h1 h2 => h j h1 (by omega)), h (i + k) (by omega) (by omega), Nat.zero_mul, Nat.add_zero]
theorem valW_blen {N : Nat → Nat} (hN : ∀ i, N i < m64) {i : Nat} (hi : i < 5) (h : ∀ j, i < j → j < 5 → N j = 0) (h0 : N i ≠ 0) : blen (valW N 5) = 64 * i + blen (N i) := by
  have e : valW N 5 = valW N (i + 1) := by
    have := valW_above (N := N) (i := i + 1) (4 - i) (fun j h1 h2 => h j (by omega) (by omega))
    rw [show i + 1 + (4 - i) = 5 by omega] at this
    exact this
  have hl := valW_lt hN i
  rw [e, valW_succ]
  have hp : 0 < m64 ^ i := Nat.pow_pos (by decide)
  have e2 : (valW N i + N i * m64 ^ i) / m64 ^ i = N i := by
    rw [Nat.add_mul_div_right _ _ hp, Nat.div_eq_of_lt hl, Nat.zero_add]
  rw [blen_shift _ (64 * i), ← m64_pow, e2]
  rw [← m64_pow]
  have := Nat.mul_le_mul_right (m64 ^ i) (show 1 ≤ N i by omega)
  omega
theorem valW_none5 {N : Nat → Nat} (h : ∀ j, j < 5 → N j = 0) : valW N 5 = 0 := (valW_zero 5).2 h
theorem blen_nil : blen 0 = 0 := by decide
theorem ne_of {n : Nat} (h : n ≠ 0) : ((n : Int) != 0) = true := by rw [bne_iff_ne]; omega
theorem eq_of {n : Nat} (h : n = 0) : ((n : Int) != 0) = false := by rw [h]; rfl
/-- A box of five words, newly made. -/
theorem box_words (w : World) (N : Nat → Nat) : WIs (w.alloc (Obj.cells #[.int .u64 (N 0 : Nat), .int .u64 (N 1 : Nat), .int .u64 (N 2 : Nat), .int .u64 (N 3 : Nat), .int .u64 (N 4 : Nat)] 64)) w.heap.size N := by
  intro j hj
  rcases j with _ | _ | _ | _ | _ | j
  · simp [go_sem]
  · simp [go_sem]
  · simp [go_sem]
  · simp [go_sem]
  · simp [go_sem]
  · omega
set_option maxHeartbeats 2000000 in
set_option maxRecDepth 100000 in
theorem length_any (N : Nat → Nat) (hN : ∀ i, N i < m64) (w : World) : Calls Tryd.prog 86 #[numV N] w fun e w' => e = .returned (.int .i64 (blen (valW N 5) : Nat)) ∧ Q w w' := by
  have HN : Hid (∀ i, N i < m64) := hN
  clear hN
  unfold numV
  go_enter Tryd.func86, Tryd.ntmps86
  go_wp2_with fail
  have HB : Hid (WIs _ _ N) := box_words w N
  have HQ : Hid (Q w _) := (Q.refl w).cells #[.int .u64 (N 0 : Nat), .int .u64 (N 1 : Nat), .int .u64 (N 2 : Nat), .int .u64 (N 3 : Nat), .int .u64 (N 4 : Nat)] 64
  generalize w.alloc (Obj.cells #[.int .u64 (N 0 : Nat), .int .u64 (N 1 : Nat), .int .u64 (N 2 : Nat), .int .u64 (N 3 : Nat), .int .u64 (N 4 : Nat)] 64) = x0 at *
  go_loopg [3] (5) (fun gh s3 wr => ∃ (i : Nat) (z : Int), s3 = .int .i64 z ∧ z = (i : Int) - 1 ∧ i ≤ 5 ∧ gh = 0 + i ∧ Hid (∀ j, i ≤ j → j < 5 → N j = 0) ∧ wr = x0)
  case atStart => exact ⟨5, 4, rfl, rfl, by omega, rfl, fun j h1 h2 => by omega, rfl⟩
  case round =>
    obtain ⟨i, z, rfl, hz, hi, rfl, HU, rfl⟩ := hrel
    rcases i with _ | k
    · obtain rfl : z = -1 := by omega
      clear hz
      have HV : Hid (blen (valW N 5) = 0) := by
        show blen (valW N 5) = 0
        rw [valW_none5 (fun j hj => HU.out j (by omega) hj)]; rfl
      go_wp2_with fail
      go_ret
      exact ⟨by rw [HV.out]; rfl, HQ.out⟩
    · obtain rfl : z = (k : Int) := by omega
      clear hz
      have c := HB.out k (by omega)
      have hk : (k : Int) < 5 := by omega
      by_cases h0 : N k = 0
      · have e1 := eq_of h0
        go_wp2_with fail
        go_roundg (k)
        case measure => go_light; omega
        case rel =>
          go_light
          refine ⟨k, _, rfl, by omega, by omega, (Nat.zero_add k).symm, fun j h1 h2 => ?_, rfl⟩
          rcases Nat.lt_or_ge k j with g | g
          · exact HU.out j g h2
          · obtain rfl : j = k := by omega
            exact h0
      · have e1 := ne_of h0
        have HV : Hid (blen (valW N 5) = 64 * k + blen (N k)) := valW_blen HN.out (by omega) (fun j h1 h2 => HU.out j (by omega) h2) h0
        have hb := blen_le64 (HN.out k)
        go_wp2_with fail
        refine (len64_any (N k) _ (HN.out k)).mono ?_
        rintro e w1 ⟨rfl, rfl⟩
        go_wp2_with fail
        go_ret
        exact ⟨by rw [HV.out]; simp, HQ.out⟩
theorem valW_split (N : Nat → Nat) (i : Nat) : ∀ k, ∃ K, valW N (i + k) = valW N i + K * m64 ^ i := by
  intro k
  induction k with
  | zero => exact ⟨0, by rw [Nat.add_zero, Nat.zero_mul, Nat.add_zero]⟩
  | succ k ih =>
    obtain ⟨K, hK⟩ := ih
    have e1 : valW N (i + (k + 1)) = valW N (i + k) + N (i + k) * m64 ^ (i + k) := valW_succ _ _
    refine ⟨K + N (i + k) * m64 ^ k, ?_⟩
    rw [e1, hK, Nat.add_mul, Nat.mul_assoc (N (i + k)), ← Nat.pow_add, Nat.add_comm k i, Nat.add_assoc]
theorem odd_mod {V t K b : Nat} (h : V = 2 ^ t * (2 * K + 1)) : t < b ↔ V % 2 ^ b ≠ 0 := by
  constructor
  · intro hb h0
    have hd : 2 ^ b ∣ 2 ^ t * (2 * K + 1) := by rw [← h]; exact Nat.dvd_of_mod_eq_zero h0
    obtain ⟨c, rfl⟩ : ∃ c, b = t + (c + 1) := ⟨b - t - 1, by omega⟩
    rw [Nat.pow_add] at hd
    have h2 := Nat.dvd_of_mul_dvd_mul_left (Nat.two_pow_pos t) hd
    rw [Nat.pow_succ] at h2
    have h3 : 2 ∣ 2 * K + 1 := Nat.dvd_trans (Nat.dvd_mul_left 2 _) h2
    omega
  · intro h0
    rcases Nat.lt_or_ge t b with g | g
    · exact g
    · exfalso
      apply h0
      rw [h, show t = b + (t - b) by omega, Nat.pow_add, Nat.mul_assoc, Nat.mul_mod_right]
theorem tz_words {N : Nat → Nat} (hN : ∀ i, N i < m64) {i : Nat} (hi : i < 5) (h : ∀ j, j < i → N j = 0) (h0 : N i ≠ 0) (b : Nat) : 64 * i + Lib.ctz 64 (N i) < b ↔ valW N 5 % 2 ^ b ≠ 0 := by
  obtain ⟨m, hm, hc⟩ := ctz_spec h0 (hN i)
  obtain ⟨K, hK⟩ := valW_split N (i + 1) (4 - i)
  rw [show i + 1 + (4 - i) = 5 by omega, valW_succ N i, (valW_zero i).2 h, Nat.zero_add] at hK
  generalize Lib.ctz 64 (N i) = c at *
  refine odd_mod (K := m + K * 2 ^ (63 - c)) ?_
  rw [hK, m64_pow, Nat.pow_succ, m64_pow, ← two64, hm, show (2 : Nat) ^ 64 = 2 ^ c * (2 ^ (63 - c) * 2) by rw [← Nat.pow_succ, ← Nat.pow_add]; congr 1; omega, Nat.pow_add]
  generalize 2 ^ c = x
  generalize 2 ^ (63 - c) = y
  generalize 2 ^ (64 * i) = z
  grind
theorem run_ix0 (a0 a1 a2 a3 a4 : Value) (w : World) : (Instr.index 64 (.agg #[a0, a1, a2, a3, a4]) (.int .i64 0)).run Tryd.prog w = .ok a0 w := by kernel_rfl
theorem run_ix1 (a0 a1 a2 a3 a4 : Value) (w : World) : (Instr.index 64 (.agg #[a0, a1, a2, a3, a4]) (.int .i64 1)).run Tryd.prog w = .ok a1 w := by kernel_rfl
theorem run_ix2 (a0 a1 a2 a3 a4 : Value) (w : World) : (Instr.index 64 (.agg #[a0, a1, a2, a3, a4]) (.int .i64 2)).run Tryd.prog w = .ok a2 w := by kernel_rfl
theorem run_ix3 (a0 a1 a2 a3 a4 : Value) (w : World) : (Instr.index 64 (.agg #[a0, a1, a2, a3, a4]) (.int .i64 3)).run Tryd.prog w = .ok a3 w := by kernel_rfl
theorem run_ix4 (a0 a1 a2 a3 a4 : Value) (w : World) : (Instr.index 64 (.agg #[a0, a1, a2, a3, a4]) (.int .i64 4)).run Tryd.prog w = .ok a4 w := by kernel_rfl
theorem numV_eq (N : Nat → Nat) : (numV N) = .agg #[.int .u64 (N 0 : Nat), .int .u64 (N 1 : Nat), .int .u64 (N 2 : Nat), .int .u64 (N 3 : Nat), .int .u64 (N 4 : Nat)] := rfl
set_option maxHeartbeats 4000000 in
set_option maxRecDepth 100000 in
theorem trailing_any (N : Nat → Nat) (hN : ∀ i, N i < m64) (w : World) (hT : Tab w) : Calls Tryd.prog 88 #[numV N] w fun e w' => ∃ t : Nat, e = .returned (.int .i64 (t : Int)) ∧ t ≤ 320 ∧ (∀ b, b ≤ 320 → (t < b ↔ valW N 5 % 2 ^ b ≠ 0)) ∧ Q w w' := by
  have HN : Hid (∀ i, N i < m64) := hN
  have HT : Hid (Tab w) := hT
  clear hN hT
  unfold numV
  go_enter Tryd.func88, Tryd.ntmps88
  go_wp2_with fail
  have HQ : Hid (Q w _) := (Q.refl w).cells #[.int .u64 (N 0 : Nat), .int .u64 (N 1 : Nat), .int .u64 (N 2 : Nat), .int .u64 (N 3 : Nat), .int .u64 (N 4 : Nat)] 64
  generalize w.alloc (Obj.cells #[.int .u64 (N 0 : Nat), .int .u64 (N 1 : Nat), .int .u64 (N 2 : Nat), .int .u64 (N 3 : Nat), .int .u64 (N 4 : Nat)] 64) = x0 at *
  go_loopg [6] (5) (fun gh s6 wr => ∃ (i : Nat), s6 = .int .i64 (i : Int) ∧ i ≤ 5 ∧ gh = 5 - i ∧ Hid (∀ j, j < i → N j = 0) ∧ wr = x0)
  case atStart => exact ⟨0, rfl, by omega, rfl, fun j h1 => by omega, rfl⟩
  case round =>
    obtain ⟨i, rfl, hi, rfl, HU, rfl⟩ := hrel
    have next : N i = 0 → Hid (∀ j, j < i + 1 → N j = 0) := fun h0 j h1 => by
      rcases Nat.lt_or_ge j i with g | g
      · exact HU.out j g
      · obtain rfl : j = i := by omega
        exact h0
    have HX : Hid (N i = 0 → Hid (∀ j, j < i + 1 → N j = 0)) := next
    have HY : Hid (i < 5 → N i ≠ 0 → (64 * i + Lib.ctz 64 (N i) ≤ 320) ∧ ∀ b, b ≤ 320 → (64 * i + Lib.ctz 64 (N i) < b ↔ valW N 5 % 2 ^ b ≠ 0)) := fun g h0 => ⟨by have := (ctz_spec h0 (HN.out i)).choose_spec.2; omega, fun b _ => tz_words HN.out g HU.out h0 b⟩
    have HZ : Hid (i = 5 → ∀ b, b ≤ 320 → (320 < b ↔ valW N 5 % 2 ^ b ≠ 0)) := fun g b hb => by
      subst g
      rw [valW_none5 HU.out, Nat.zero_mod]
      exact ⟨fun h => by omega, fun h => absurd rfl h⟩
    clear next HU
    rcases i with _ | _ | _ | _ | _ | i
    · have l := run_ix0
      by_cases h0 : N 0 = 0
      · have e1 := eq_of h0
        have H0 : Hid (N 0 = 0) := h0
        clear h0
        go_wp2_with fail
        go_roundg (4)
        case measure => go_light; omega
        case rel =>
          go_light
          exact ⟨1, rfl, by omega, rfl, (HX.out H0.out).out, rfl⟩
      · have e1 := ne_of h0
        have k1 := HY.out (by omega) h0
        have hc : Lib.ctz 64 (N 0) ≤ 320 := by have : 64 * 0 + Lib.ctz 64 (N 0) ≤ 320 := k1.1; omega
        have K1 : Hid _ := k1
        clear k1 h0
        go_wp2_with fail
        refine (tz64_any (N 0) _ (HN.out 0) (HQ.out.tab HT.out)).mono ?_
        rintro e w1 ⟨rfl, rfl⟩
        go_wp2_with fail
        go_ret
        exact ⟨64 * 0 + Lib.ctz 64 (N 0), by simp, K1.out.1, K1.out.2, HQ.out⟩
    · have l := run_ix1
      by_cases h0 : N 1 = 0
      · have e1 := eq_of h0
        have H0 : Hid (N 1 = 0) := h0
        clear h0
        go_wp2_with fail
        go_roundg (3)
        case measure => go_light; omega
        case rel =>
          go_light
          exact ⟨2, rfl, by omega, rfl, (HX.out H0.out).out, rfl⟩
      · have e1 := ne_of h0
        have k1 := HY.out (by omega) h0
        have hc : Lib.ctz 64 (N 1) ≤ 320 := by have : 64 * 1 + Lib.ctz 64 (N 1) ≤ 320 := k1.1; omega
        have K1 : Hid _ := k1
        clear k1 h0
        go_wp2_with fail
        refine (tz64_any (N 1) _ (HN.out 1) (HQ.out.tab HT.out)).mono ?_
        rintro e w1 ⟨rfl, rfl⟩
        go_wp2_with fail
        go_ret
        exact ⟨64 * 1 + Lib.ctz 64 (N 1), by simp, K1.out.1, K1.out.2, HQ.out⟩
    · have l := run_ix2
      by_cases h0 : N 2 = 0
      · have e1 := eq_of h0
        have H0 : Hid (N 2 = 0) := h0
        clear h0
        go_wp2_with fail
        go_roundg (2)
        case measure => go_light; omega
        case rel =>
          go_light
          exact ⟨3, rfl, by omega, rfl, (HX.out H0.out).out, rfl⟩
      · have e1 := ne_of h0
        have k1 := HY.out (by omega) h0
        have hc : Lib.ctz 64 (N 2) ≤ 320 := by have : 64 * 2 + Lib.ctz 64 (N 2) ≤ 320 := k1.1; omega
        have K1 : Hid _ := k1
        clear k1 h0
        go_wp2_with fail
        refine (tz64_any (N 2) _ (HN.out 2) (HQ.out.tab HT.out)).mono ?_
        rintro e w1 ⟨rfl, rfl⟩
        go_wp2_with fail
        go_ret
        exact ⟨64 * 2 + Lib.ctz 64 (N 2), by simp, K1.out.1, K1.out.2, HQ.out⟩
    · have l := run_ix3
      by_cases h0 : N 3 = 0
      · have e1 := eq_of h0
        have H0 : Hid (N 3 = 0) := h0
        clear h0
        go_wp2_with fail
        go_roundg (1)
        case measure => go_light; omega
        case rel =>
          go_light
          exact ⟨4, rfl, by omega, rfl, (HX.out H0.out).out, rfl⟩
      · have e1 := ne_of h0
        have k1 := HY.out (by omega) h0
        have hc : Lib.ctz 64 (N 3) ≤ 320 := by have : 64 * 3 + Lib.ctz 64 (N 3) ≤ 320 := k1.1; omega
        have K1 : Hid _ := k1
        clear k1 h0
        go_wp2_with fail
        refine (tz64_any (N 3) _ (HN.out 3) (HQ.out.tab HT.out)).mono ?_
        rintro e w1 ⟨rfl, rfl⟩
        go_wp2_with fail
        go_ret
        exact ⟨64 * 3 + Lib.ctz 64 (N 3), by simp, K1.out.1, K1.out.2, HQ.out⟩
    · have l := run_ix4
      by_cases h0 : N 4 = 0
      · have e1 := eq_of h0
        have H0 : Hid (N 4 = 0) := h0
        clear h0
        go_wp2_with fail
        go_roundg (0)
        case measure => go_light; omega
        case rel =>
          go_light
          exact ⟨5, rfl, by omega, rfl, (HX.out H0.out).out, rfl⟩
      · have e1 := ne_of h0
        have k1 := HY.out (by omega) h0
        have hc : Lib.ctz 64 (N 4) ≤ 320 := by have : 64 * 4 + Lib.ctz 64 (N 4) ≤ 320 := k1.1; omega
        have K1 : Hid _ := k1
        clear k1 h0
        go_wp2_with fail
        refine (tz64_any (N 4) _ (HN.out 4) (HQ.out.tab HT.out)).mono ?_
        rintro e w1 ⟨rfl, rfl⟩
        go_wp2_with fail
        go_ret
        exact ⟨64 * 4 + Lib.ctz 64 (N 4), by simp, K1.out.1, K1.out.2, HQ.out⟩
    · obtain rfl : i = 0 := by omega
      go_wp2_with fail
      go_ret
      exact ⟨320, rfl, by omega, HZ.out trivial, HQ.out⟩
/-- 64 bits of a number from a bit on. -/
theorem from_words {N : Nat → Nat} (hN : ∀ i, N i < m64) {i sh : Nat} (hi : i + 1 < 5) (hs : sh < 64) : valW N 5 / 2 ^ (64 * i + sh) % m64 = N i / 2 ^ sh + N (i + 1) * 2 ^ (64 - sh) % m64 := by
  obtain ⟨K, hK⟩ := valW_split N (i + 2) (3 - i)
  rw [show i + 2 + (3 - i) = 5 by omega, show i + 2 = i + 1 + 1 from rfl, valW_succ N (i + 1), valW_succ N i] at hK
  have hl := valW_lt hN i
  have hp : 0 < m64 ^ i := Nat.pow_pos (by decide)
  have e1 : valW N 5 / m64 ^ i = N i + (N (i + 1) + K * m64) * m64 := by
    have : valW N 5 = valW N i + (N i + (N (i + 1) + K * m64) * m64) * m64 ^ i := by
      rw [hK, Nat.pow_succ, Nat.pow_succ]
      grind
    rw [this, Nat.add_mul_div_right _ _ hp, Nat.div_eq_of_lt hl, Nat.zero_add]
  have e2 : m64 = 2 ^ (64 - sh) * 2 ^ sh := by rw [← two64, ← Nat.pow_add]; congr 1; omega
  have e3 : valW N 5 / 2 ^ (64 * i + sh) = N i / 2 ^ sh + (N (i + 1) + K * m64) * 2 ^ (64 - sh) := by
    rw [Nat.pow_add, ← m64_pow, ← Nat.div_div_eq_div_mul, e1]
    have : (N (i + 1) + K * m64) * m64 = (N (i + 1) + K * m64) * 2 ^ (64 - sh) * 2 ^ sh := by
      rw [Nat.mul_assoc _ (2 ^ (64 - sh)), ← e2]
    rw [this, Nat.add_mul_div_right _ _ (Nat.two_pow_pos sh)]
  have h4 : N i / 2 ^ sh < 2 ^ (64 - sh) := by
    rw [Nat.div_lt_iff_lt_mul (Nat.two_pow_pos sh), ← e2]
    exact hN i
  have e5 : (N (i + 1) + K * m64) * 2 ^ (64 - sh) = N (i + 1) * 2 ^ (64 - sh) + K * 2 ^ (64 - sh) * m64 := by grind
  rw [e3, e5, ← Nat.add_assoc, Nat.add_mul_mod_self_right]
  -- both parts together lie below 2^64
  have h6 : 2 ^ (64 - sh) ∣ N (i + 1) * 2 ^ (64 - sh) % m64 := by
    rw [Nat.dvd_mod_iff (by rw [e2]; exact Nat.dvd_mul_right _ _)]
    exact Nat.dvd_mul_left _ _
  rw [Nat.add_mod, Nat.mod_eq_of_lt (a := N i / 2 ^ sh) (Nat.lt_of_le_of_lt (Nat.div_le_self _ _) (hN i))]
  refine Nat.mod_eq_of_lt ?_
  have h7 : N (i + 1) * 2 ^ (64 - sh) % m64 < m64 := Nat.mod_lt _ (by decide)
  obtain ⟨c, hc⟩ := h6
  rw [hc] at h7 ⊢
  rw [e2] at h7 ⊢
  have h8 : c < 2 ^ sh := Nat.lt_of_mul_lt_mul_left h7
  have h9 := Nat.mul_le_mul_left (2 ^ (64 - sh)) (show c + 1 ≤ 2 ^ sh from h8)
  rw [Nat.mul_add, Nat.mul_one] at h9
  omega
theorem from_top {N : Nat → Nat} (hN : ∀ i, N i < m64) {sh : Nat} (hs : sh < 64) : valW N 5 / 2 ^ (64 * 4 + sh) % m64 = N 4 / 2 ^ sh := by
  have hl := valW_lt hN 4
  have hp : 0 < m64 ^ 4 := Nat.pow_pos (by decide)
  rw [Nat.pow_add, ← m64_pow, ← Nat.div_div_eq_div_mul, valW_succ N 4, Nat.add_mul_div_right _ _ hp, Nat.div_eq_of_lt hl, Nat.zero_add]
  exact Nat.mod_eq_of_lt (Nat.lt_of_le_of_lt (Nat.div_le_self _ _) (hN 4))
theorem from_or {n m sh : Nat} (hn : n < m64) (hs : sh < 64) : bits .or .u64 ((n / 2 ^ sh : Nat) : Int) ((m * 2 ^ (64 - sh) % m64 : Nat) : Int) = ((n / 2 ^ sh + m * 2 ^ (64 - sh) % m64 : Nat) : Int) := by
  have e2 : m64 = 2 ^ (64 - sh) * 2 ^ sh := by rw [← two64, ← Nat.pow_add]; congr 1; omega
  have h4 : n / 2 ^ sh < 2 ^ (64 - sh) := by
    rw [Nat.div_lt_iff_lt_mul (Nat.two_pow_pos sh), ← e2]
    exact hn
  have e6 : m * 2 ^ (64 - sh) % m64 = 2 ^ (64 - sh) * (m % 2 ^ sh) := by
    rw [e2, Nat.mul_comm m, Nat.mul_mod_mul_left]
  have h7 : m * 2 ^ (64 - sh) % m64 < 18446744073709551616 := Nat.mod_lt _ (by decide)
  have h8 : n / 2 ^ sh < 18446744073709551616 := Nat.lt_of_le_of_lt (Nat.div_le_self _ _) hn
  have e : bits .or .u64 ((n / 2 ^ sh : Nat) : Int) ((m * 2 ^ (64 - sh) % m64 : Nat) : Int) = (((n / 2 ^ sh) ||| (m * 2 ^ (64 - sh) % m64) : Nat) : Int) := by
    generalize n / 2 ^ sh = x at *
    generalize m * 2 ^ (64 - sh) % m64 = y at *
    go_bits2
  rw [e, e6, Nat.or_comm, ← Nat.two_pow_add_eq_or_of_lt h4, Nat.add_comm]
set_option maxHeartbeats 4000000 in
set_option maxRecDepth 100000 in
theorem from_any (N : Nat → Nat) (hN : ∀ i, N i < m64) (b : Nat) (hb : b < 320) (w : World) : Calls Tryd.prog 87 #[numV N, .int .i64 (b : Int)] w fun e w' => e = .returned (.int .u64 ((valW N 5 / 2 ^ b % m64 : Nat) : Int)) ∧ Q w w' := by
  obtain ⟨i, hi⟩ : ∃ i, i = b / 64 := ⟨_, rfl⟩
  obtain ⟨sh, hs⟩ : ∃ sh, sh = b % 64 := ⟨_, rfl⟩
  have hs1 : sh < 64 := by omega
  have eb : b = 64 * i + sh := by omega
  have hi1 : i < 5 := by omega
  have q1 : ((b : Int)).tdiv 64 = (i : Int) := by rw [show ((b : Int)).tdiv 64 = ((b / 64 : Nat) : Int) from rfl, ← hi]
  have q2 : ((b : Int)).tmod 64 = (sh : Int) := by rw [show ((b : Int)).tmod 64 = ((b % 64 : Nat) : Int) from rfl, ← hs]
  have q3 : (b : Int) / 64 = (i : Int) := by omega
  have q4 : (b : Int) % 64 = (sh : Int) := by omega
  have HN : Hid (∀ i, N i < m64) := hN
  clear hi hs
  unfold numV
  by_cases h4 : i = 4
  · subst h4
    have HF : Hid (valW N 5 / 2 ^ b % m64 = N 4 / 2 ^ sh) := by
      show valW N 5 / 2 ^ b % m64 = N 4 / 2 ^ sh
      rw [eb]; exact from_top hN hs1
    have HE : Hid (b = 64 * 4 + sh) := eb
    clear hN eb hi1
    go_enter Tryd.func87, Tryd.ntmps87
    go_wp2_with fail
    go_ret
    exact ⟨by rw [HF.out]; simp, (Q.refl w).cells _ _⟩
  · have HF : Hid (valW N 5 / 2 ^ b % m64 = N i / 2 ^ sh + N (i + 1) * 2 ^ (64 - sh) % m64) := by
      show valW N 5 / 2 ^ b % m64 = _
      rw [eb]; exact from_words hN (by omega) hs1
    have HE : Hid (b = 64 * i + sh) := eb
    have c1 := box_words w N i (by omega)
    have c2 := box_words w N (i + 1) (by omega)
    have n4 : ((i : Int) + 1 == 5) = false := by rw [beq_eq_false_iff_ne]; omega
    have hi2 : (i : Int) + 1 < 5 := by omega
    have HO : Hid _ := from_or (m := N (i + 1)) (hN i) hs1
    clear hN eb
    go_enter Tryd.func87, Tryd.ntmps87
    go_wp2_with fail
    go_ret
    exact ⟨by rw [HF.out, ← HO.out]; simp [IntKind.wrap_u64, m64], (Q.refl w).cells _ _⟩
end Go.Proofs.YtnjagokojdpgpabDoor
