/- math/bits: how many bits a number has, above and below. -/
import Derived.Test.YtnjagokojdpgpabDoorG85f05a45
import Derived.Shelf.Small.Bits
import Derived.Shelf.Spec.TrailingZeros
namespace Go.Proofs.YtnjagokojdpgpabDoor
open Go.RowKit
set_option linter.unusedVariables false
set_option linter.unusedSimpArgs false

theorem bitLen_blen : ∀ (k x : Nat), k ≤ 64 → x < 2 ^ k → Lib.bitLen x = blen x := by
  intro k
  induction k with
  | zero =>
    intro x _ h
    have : x = 0 := by omega
    subst this
    decide
  | succ k ih =>
    intro x hk h
    by_cases h0 : x = 0
    · subst h0; decide
    · have h1 : 2 ^ (k + 1) ≤ 2 ^ 64 := Nat.pow_le_pow_right (by decide) hk
      rw [Lib.bitLen_half x h0 (by omega), ← blen_half (by omega : 0 < x), ih (x / 2) (by omega) (by rw [Nat.pow_succ] at h; omega)]
      omega
def lenRen : Go.Shelf.Ren := ⟨fun | 129 => 92 | 134 => 91 | n => n, fun | 3 => 3 | 4 => 4 | 5 => 5 | 9 => 9 | 46 => 76 | 53 => 43 | n => n, fun n => n⟩
set_option maxRecDepth 1000000 in
theorem lays134 : Lays.n134 Tryd.prog lenRen := { mixed := by kernel_rfl, f129 := by kernel_rfl, f134 := by kernel_rfl, t3 := by kernel_rfl, a3 := fun _ => by kernel_rfl, z3 := fun _ => by kernel_rfl, v3 := fun _ => by kernel_rfl, t4 := by kernel_rfl, a4 := fun _ => by kernel_rfl, z4 := fun _ => by kernel_rfl, v4 := fun _ => by kernel_rfl, t5 := by kernel_rfl, a5 := fun _ => by kernel_rfl, z5 := fun _ => by kernel_rfl, v5 := fun _ => by kernel_rfl, t9 := by kernel_rfl, a9 := fun _ => by kernel_rfl, z9 := fun _ => by kernel_rfl, v9 := fun _ => by kernel_rfl, t46 := by kernel_rfl, a46 := fun _ => by kernel_rfl, z46 := fun _ => by kernel_rfl, v46 := fun _ => by kernel_rfl, t53 := by kernel_rfl, a53 := fun _ => by kernel_rfl, z53 := fun _ => by kernel_rfl, v53 := fun _ => by kernel_rfl }
theorem lays129 : Lays.n129 Tryd.prog lenRen := { lays134 with }
theorem len64_any (x : Nat) (w : World) (hx : x < 18446744073709551616) : Calls Tryd.prog 92 #[.int .u64 (x : Int)] w fun e w' => e = .returned (.int .i64 (blen x : Nat)) ∧ w' = w := by
  have h := Any.bits_Len64 lays129 (x : Int) w (by omega) (by omega)
  rw [show ((x : Int)).toNat = x from rfl, bitLen_blen 64 x (by decide) hx] at h
  exact h
theorem blen_le64 {x : Nat} (hx : x < 18446744073709551616) : blen x ≤ 64 := blen_le (by omega)
theorem lz64_any (x : Nat) (w : World) (hx : x < 18446744073709551616) : Calls Tryd.prog 91 #[.int .u64 (x : Int)] w fun e w' => e = .returned (.int .i64 ((64 - blen x : Nat) : Int)) ∧ w' = w := by
  have h := Any.bits_LeadingZeros64 lays134 (x : Int) w (by omega) (by omega)
  have hl := blen_le64 hx
  rw [show ((x : Int)).toNat = x from rfl, bitLen_blen 64 x (by decide) hx, show (64 - (blen x : Int)) = ((64 - blen x : Nat) : Int) by omega] at h
  exact h
def tzRen : Go.Shelf.Ren := ⟨fun | 29 => 93 | n => n, fun | 0 => 0 | 3 => 3 | 4 => 4 | 5 => 5 | 22 => 43 | 25 => 76 | 54 => 112 | n => n, fun | 1 => 3 | n => n⟩
set_option maxRecDepth 1000000 in
theorem lays29 : Lays7.n29 Tryd.prog tzRen := { mixed := by kernel_rfl, f29 := by kernel_rfl, t0 := by kernel_rfl, a0 := fun _ => by kernel_rfl, z0 := fun _ => by kernel_rfl, v0 := fun _ => by kernel_rfl, i0 := by kernel_rfl, t3 := by kernel_rfl, a3 := fun _ => by kernel_rfl, z3 := fun _ => by kernel_rfl, v3 := fun _ => by kernel_rfl, i3 := by kernel_rfl, t4 := by kernel_rfl, a4 := fun _ => by kernel_rfl, z4 := fun _ => by kernel_rfl, v4 := fun _ => by kernel_rfl, i4 := by kernel_rfl, t5 := by kernel_rfl, a5 := fun _ => by kernel_rfl, z5 := fun _ => by kernel_rfl, v5 := fun _ => by kernel_rfl, i5 := by kernel_rfl, t22 := by kernel_rfl, a22 := fun _ => by kernel_rfl, z22 := fun _ => by kernel_rfl, v22 := fun _ => by kernel_rfl, i22 := by kernel_rfl, t25 := by kernel_rfl, a25 := fun _ => by kernel_rfl, z25 := fun _ => by kernel_rfl, v25 := fun _ => by kernel_rfl, i25 := by kernel_rfl, t54 := by kernel_rfl, a54 := fun _ => by kernel_rfl, z54 := fun _ => by kernel_rfl, g1 := by kernel_rfl }
/-- The table of math/bits lies in its variable. -/
def Tab (w : World) : Prop := TabAt 3 Lib.deBruijn64tab w
theorem Q.tab {w w' : World} (q : Q w w') (h : Tab w) : Tab w' := fun j hj => q.cell (h j hj)
theorem tz64_any (x : Nat) (w : World) (hx : x < 18446744073709551616) (hT : Tab w) : Calls Tryd.prog 93 #[.int .u64 (x : Int)] w fun e w' => e = .returned (.int .i64 (Lib.ctz 64 x : Nat)) ∧ w' = w :=
  Any7.bits_TrailingZeros64 lays29 x hx w (fun _ => hT)
/-- What the last bits of a number are. -/
theorem ctz_spec {x : Nat} (h0 : x ≠ 0) (hx : x < 18446744073709551616) : ∃ m, x = 2 ^ Lib.ctz 64 x * (2 * m + 1) ∧ Lib.ctz 64 x < 64 := by
  unfold Lib.ctz
  rw [if_neg h0]
  exact Lib.ctzFrom_spec 64 x (by omega) (by omega)
end Go.Proofs.YtnjagokojdpgpabDoor
/- math/bits.Div64 by a number below 2^32. -/
namespace Go.Proofs.YtnjagokojdpgpabDoor
open Go.RowKit
set_option linter.unusedVariables false
set_option linter.unusedSimpArgs false

set_option maxHeartbeats 4000000 in
set_option maxRecDepth 100000 in
theorem div64_zero (lo y q r : Nat) (w : World) (h0 : 0 < y) (E3 : Hid (IntKind.u64.wrap ((lo : Int) / (y : Int)) = (q : Int))) (E4 : Hid ((lo : Int) % (y : Int) = (r : Int))) : Calls Tryd.prog 85 #[.int .u64 0, .int .u64 (lo : Int), .int .u64 (y : Int)] w fun e w' => e = .returned (.tuple #[.int .u64 (q : Int), .int .u64 (r : Int)]) ∧ Q w w' := by
  have e0 : ((y : Int) == 0) = false := by rw [beq_eq_false_iff_ne]; omega
  have e1 : ¬ (y : Int) ≤ 0 := by omega
  have e2 : ¬ (y : Int) = 0 := by omega
  go_enter Tryd.func85, Tryd.ntmps85
  go_wp2_with fail
  have e5 : ¬ y = 0 := by omega
  refine wp_region_quiet_Q (by kernel_rfl) (by kernel_rfl) ?_
  repeat (first | go_big_quiet_step (rfl) | quiet_step (rfl))
  refine wpQuiet_nil ?_
  intro w4 hw'
  have hq4 := qw_out hw'
  clear hw'
  go_wp2_with fail
  go_ret2
  exact ⟨by rw [E4.out, E3.out]; rfl, hq4⟩
set_option maxHeartbeats 4000000 in
set_option maxRecDepth 100000 in
theorem div64_walk (hi lo y s : Nat) (w : World) (hb : 64 - blen y = s) (hy' : y < 4294967296) (h0 : 0 < y) (e1 : ¬ (y : Int) ≤ hi) (e2 : ((hi : Int) == 0) = false) (s1 : s < 64)
    (Y n1 H l5 u L p1 p0 q1 r1 v q0 r0 q r : Int)
    (a1 : IntKind.u64.wrap ((y : Int) * 2 ^ s) = Y) (a2 : Y / 4294967296 = n1) (a3 : bits .and .u64 Y 4294967295 = 0) (a4 : IntKind.u64.wrap ((hi : Int) * 2 ^ s) = H) (a5 : (lo : Int) / 2 ^ (64 - s) = l5)
    (a6 : bits .or .u64 H l5 = u) (a7 : IntKind.u64.wrap ((lo : Int) * 2 ^ s) = L) (a8 : L / 4294967296 = p1) (a9 : bits .and .u64 L 4294967295 = p0) (n0 : ¬ n1 = 0)
    (a10 : IntKind.u64.wrap (u.tdiv n1) = q1) (a11 : IntKind.u64.wrap (u - IntKind.u64.wrap (q1 * n1)) = r1) (t1 : ¬ 4294967296 ≤ q1) (t2 : ¬ IntKind.u64.wrap (IntKind.u64.wrap (4294967296 * r1) + p1) < 0)
    (a12 : IntKind.u64.wrap (IntKind.u64.wrap (IntKind.u64.wrap (u * 4294967296) + p1) - IntKind.u64.wrap (q1 * Y)) = v) (a13 : IntKind.u64.wrap (v.tdiv n1) = q0) (a14 : IntKind.u64.wrap (v - IntKind.u64.wrap (q0 * n1)) = r0)
    (t3 : ¬ 4294967296 ≤ q0) (t4 : ¬ IntKind.u64.wrap (IntKind.u64.wrap (4294967296 * r0) + p0) < 0) (a15 : IntKind.u64.wrap (IntKind.u64.wrap (q1 * 4294967296) + q0) = q)
    (a16 : IntKind.u64.wrap (IntKind.u64.wrap (IntKind.u64.wrap (v * 4294967296) + p0) - IntKind.u64.wrap (q0 * Y)) / 2 ^ s = r) : Calls Tryd.prog 85 #[.int .u64 (hi : Int), .int .u64 (lo : Int), .int .u64 (y : Int)] w fun e w' => e = .returned (.tuple #[.int .u64 q, .int .u64 r]) ∧ Q w w' := by
  have e0 : ((y : Int) == 0) = false := by rw [beq_eq_false_iff_ne]; omega
  have T2 : Hid (¬ IntKind.u64.wrap (IntKind.u64.wrap (4294967296 * r1) + p1) < 0) := t2
  have T4 : Hid (¬ IntKind.u64.wrap (IntKind.u64.wrap (4294967296 * r0) + p0) < 0) := t4
  clear t2 t4
  go_enter Tryd.func85, Tryd.ntmps85
  go_wp2_with fail
  refine (lz64_any y _ (by omega)).mono ?_
  rintro e w1 ⟨rfl, rfl⟩
  rw [hb]
  go_wp2_with fail
  go_loopg [15, 16] (0) (fun gh s15 s16 wr => s15 = .int .u64 q1 ∧ s16 = .int .u64 r1 ∧ gh = 0 ∧ wr = w1)
  case atStart => exact ⟨rfl, rfl, rfl, rfl⟩
  case round =>
    obtain ⟨rfl, rfl, rfl, rfl⟩ := hrel
    have t2 := T2.out
    go_wp2_with fail
    clear t2
    go_loopg [16, 18] (0) (fun gh s16 s18 wx => s18 = .int .u64 q0 ∧ s16 = .int .u64 r0 ∧ gh = 0 ∧ wx = wr)
    case atStart => exact ⟨rfl, rfl, rfl, rfl⟩
    case round =>
      obtain ⟨rfl, rfl, rfl, rfl⟩ := hrel
      have t4 := T4.out
      go_wp2_with fail
      go_ret2
      exact ⟨rfl, Q.refl _⟩
/-- The digits of a long division in two steps. -/
theorem div_steps {hi lo y s Y n1 u L p1 p0 q1 v q0 R : Nat} (hY : Y = y * 2 ^ s) (hn : Y = n1 * 4294967296) (hn0 : 0 < n1) (hu : u = hi * 2 ^ s + lo / 2 ^ (64 - s)) (hL : L = lo * 2 ^ s % 18446744073709551616) (hs : s ≤ 64) (hp1 : p1 = L / 4294967296) (hp0 : p0 = L % 4294967296)
    (hq1 : q1 = u / n1) (hv : v = (u - q1 * n1) * 4294967296 + p1) (hq0 : q0 = v / n1) (hR : R = (v - q0 * n1) * 4294967296 + p0) (hh : hi < y) (hl : lo < 18446744073709551616) :
    q1 * 4294967296 + q0 = (hi * 18446744073709551616 + lo) / y ∧ R / 2 ^ s = (hi * 18446744073709551616 + lo) % y ∧ q1 < 4294967296 ∧ q0 < 4294967296 ∧ u < Y ∧ v < Y ∧ R < Y ∧ q1 * n1 ≤ u ∧ q0 * n1 ≤ v := by
  have hp : 0 < 2 ^ s := Nat.two_pow_pos s
  have hpow : (2 : Nat) ^ 64 = 2 ^ (64 - s) * 2 ^ s := by rw [← Nat.pow_add]; congr 1; omega
  have hLo : lo * 2 ^ s = lo / 2 ^ (64 - s) * 18446744073709551616 + L := by
    have h1 := Nat.div_add_mod (lo * 2 ^ s) 18446744073709551616
    have h2 : lo * 2 ^ s / 18446744073709551616 = lo / 2 ^ (64 - s) := by
      rw [show (18446744073709551616 : Nat) = 2 ^ 64 from by decide, hpow, Nat.mul_div_mul_right _ _ hp]
    rw [h2, ← hL, Nat.mul_comm] at h1
    omega
  have hL2 : L = p1 * 4294967296 + p0 := by
    rw [hp1, hp0]; omega
  have hp1' : p1 < 4294967296 := by
    have : L < 18446744073709551616 := by rw [hL]; exact Nat.mod_lt _ (by decide)
    rw [hp1]; omega
  have hp0' : p0 < 4294967296 := by rw [hp0]; exact Nat.mod_lt _ (by decide)
  have hu0 : lo / 2 ^ (64 - s) < 2 ^ s := by
    rw [Nat.div_lt_iff_lt_mul (Nat.two_pow_pos _), Nat.mul_comm, ← hpow]
    exact hl
  have huY : u < Y := by
    have h1 := Nat.mul_le_mul_right (2 ^ s) (show hi + 1 ≤ y from hh)
    rw [Nat.add_mul, Nat.one_mul] at h1
    omega
  have hu1 : u = q1 * n1 + u % n1 := by
    rw [hq1, Nat.mul_comm]
    exact (Nat.div_add_mod u n1).symm
  have hu2 : u % n1 < n1 := Nat.mod_lt _ hn0
  have hq1' : q1 < 4294967296 := by
    rw [hq1, Nat.div_lt_iff_lt_mul hn0, Nat.mul_comm]
    omega
  have hv1 : v = u % n1 * 4294967296 + p1 := by rw [hv]; omega
  have hvY : v < Y := by omega
  have hv2 : v = q0 * n1 + v % n1 := by
    rw [hq0, Nat.mul_comm]
    exact (Nat.div_add_mod v n1).symm
  have hv3 : v % n1 < n1 := Nat.mod_lt _ hn0
  have hq0' : q0 < 4294967296 := by
    rw [hq0, Nat.div_lt_iff_lt_mul hn0, Nat.mul_comm]
    omega
  have hR1 : R = v % n1 * 4294967296 + p0 := by rw [hR]; omega
  have hRY : R < Y := by omega
  have hN : (hi * 18446744073709551616 + lo) * 2 ^ s = u * 18446744073709551616 + L := by
    rw [Nat.add_mul, hu, hLo, Nat.add_mul]
    have : hi * 18446744073709551616 * 2 ^ s = hi * 2 ^ s * 18446744073709551616 := by rw [Nat.mul_assoc, Nat.mul_comm 18446744073709551616, ← Nat.mul_assoc]
    omega
  have hN2 : (q1 * 4294967296 + q0) * Y = q1 * n1 * 18446744073709551616 + q0 * n1 * 4294967296 := by
    rw [hn]
    grind
  have hN3 : (hi * 18446744073709551616 + lo) * 2 ^ s = (q1 * 4294967296 + q0) * y * 2 ^ s + R := by
    rw [Nat.mul_assoc, ← hY, hN2, hN]
    omega
  have hR2 : R / 2 ^ s < y := by
    rw [Nat.div_lt_iff_lt_mul hp, ← hY]
    exact hRY
  have hN4 : hi * 18446744073709551616 + lo = (q1 * 4294967296 + q0) * y + R / 2 ^ s := by
    have h1 : (hi * 18446744073709551616 + lo) * 2 ^ s / 2 ^ s = hi * 18446744073709551616 + lo := Nat.mul_div_cancel _ hp
    rw [hN3, Nat.add_comm, Nat.add_mul_div_right _ _ hp] at h1
    omega
  have hy : 0 < y := by omega
  have hd : (hi * 18446744073709551616 + lo) / y = q1 * 4294967296 + q0 ∧ (hi * 18446744073709551616 + lo) % y = R / 2 ^ s := by
    refine (Nat.div_mod_unique hy).2 ⟨?_, hR2⟩
    rw [hN4, Nat.mul_comm y]
    omega
  exact ⟨hd.1.symm, hd.2.symm, hq1', hq0', huY, hvY, hRY, by omega, by omega⟩
theorem pow32 {s : Nat} (h : 32 ≤ s) : 2 ^ s = 4294967296 * 2 ^ (s - 32) := by
  rw [show (4294967296 : Nat) = 2 ^ 32 by decide, ← Nat.pow_add]
  congr 1
  omega
theorem or_sum64 {a b s : Nat} (ha : a * 2 ^ s < 18446744073709551616) (hb : b < 2 ^ s) (hs : s < 64) : bits .or .u64 ((a * 2 ^ s : Nat) : Int) (b : Int) = ((a * 2 ^ s + b : Nat) : Int) := by
  have hb' : b < 18446744073709551616 := Nat.lt_of_lt_of_le hb (Nat.le_trans (Nat.pow_le_pow_right (by decide) (Nat.le_of_lt hs)) (by decide))
  have e : bits .or .u64 ((a * 2 ^ s : Nat) : Int) (b : Int) = ((a * 2 ^ s ||| b : Nat) : Int) := by
    generalize a * 2 ^ s = x at *
    go_bits2
  rw [e, Nat.mul_comm a, ← Nat.two_pow_add_eq_or_of_lt hb]
theorem wrap3 (X P A M : Int) : ((X % M + P) % M - A % M) % M = (X + P - A) % M := by
  rw [Int.emod_add_emod, ← Int.sub_emod]
theorem wrap3n {x a p v : Nat} (h : a ≤ x) (hv : v = (x - a) * 4294967296 + p) (hl : v < 18446744073709551616) : IntKind.u64.wrap (IntKind.u64.wrap (IntKind.u64.wrap ((x : Int) * 4294967296) + (p : Int)) - IntKind.u64.wrap ((a * 4294967296 : Nat) : Int)) = (v : Int) := by
  rw [IntKind.wrap_u64, IntKind.wrap_u64, IntKind.wrap_u64, IntKind.wrap_u64, wrap3]
  have e : (x : Int) * 4294967296 + (p : Int) - ((a * 4294967296 : Nat) : Int) = (v : Int) := by omega
  rw [e]
  exact Int.emod_eq_of_lt (by omega) (by omega)
set_option maxHeartbeats 1000000 in
theorem div64_any (hi lo y : Nat) (w : World) (hl : lo < 18446744073709551616) (hy : y < 4294967296) (hh : hi < y) : Calls Tryd.prog 85 #[.int .u64 (hi : Int), .int .u64 (lo : Int), .int .u64 (y : Int)] w fun e w' => e = .returned (.tuple #[.int .u64 (((hi * 18446744073709551616 + lo) / y : Nat) : Int), .int .u64 (((hi * 18446744073709551616 + lo) % y : Nat) : Int)]) ∧ Q w w' := by
  rcases Nat.eq_zero_or_pos hi with h | h
  · subst h
    rw [Nat.zero_mul, Nat.zero_add]
    refine div64_zero lo y _ _ w hh ?_ ?_
    · have h1 : lo / y ≤ lo := Nat.div_le_self _ _
      show IntKind.u64.wrap ((lo : Int) / (y : Int)) = _
      rw [← Int.natCast_ediv, IntKind.wrap_u64]
      generalize lo / y = a at *
      exact Int.emod_eq_of_lt (by omega) (by omega)
    · show ((lo : Int) % (y : Int)) = _
      rw [← Int.natCast_emod]
  · have hb1 : blen y ≤ 32 := blen_le hy
    have hb0 : y < 2 ^ blen y := blen_lt y
    obtain ⟨s, hs⟩ : ∃ s, 64 - blen y = s := ⟨_, rfl⟩
    have hy0 : y ≠ 0 := by omega
    have hbl : blen y = y.log2 + 1 := if_neg hy0
    have hlog : 2 ^ y.log2 ≤ y := Nat.log2_self_le hy0
    have hs0 : 32 ≤ s := by omega
    have hs1 : s < 64 := by omega
    have hpow : (2 : Nat) ^ 64 = 2 ^ blen y * 2 ^ s := by rw [← Nat.pow_add]; congr 1; omega
    have hY1 : y * 2 ^ s < 18446744073709551616 := by
      have := Nat.mul_lt_mul_of_pos_right hb0 (Nat.two_pow_pos s)
      rw [← hpow] at this
      exact this
    have hH1 : hi * 2 ^ s < 18446744073709551616 := Nat.lt_trans (Nat.mul_lt_mul_of_pos_right hh (Nat.two_pow_pos s)) hY1
    have hl5 : lo / 2 ^ (64 - s) < 2 ^ s := by
      rw [Nat.div_lt_iff_lt_mul (Nat.two_pow_pos _), ← Nat.pow_add, show s + (64 - s) = 64 by omega]
      exact hl
    have hn : y * 2 ^ s = y * 2 ^ (s - 32) * 4294967296 := by rw [pow32 hs0]; grind
    have hn0 : 0 < y * 2 ^ (s - 32) := Nat.mul_pos (by omega) (Nat.two_pow_pos _)
    obtain ⟨Y, hY⟩ : ∃ Y, Y = y * 2 ^ s := ⟨_, rfl⟩
    obtain ⟨n1, hn1⟩ : ∃ n1, n1 = y * 2 ^ (s - 32) := ⟨_, rfl⟩
    obtain ⟨u, hu⟩ : ∃ u, u = hi * 2 ^ s + lo / 2 ^ (64 - s) := ⟨_, rfl⟩
    obtain ⟨L, hL⟩ : ∃ L, L = lo * 2 ^ s % 18446744073709551616 := ⟨_, rfl⟩
    obtain ⟨p1, hp1⟩ : ∃ p1, p1 = L / 4294967296 := ⟨_, rfl⟩
    obtain ⟨p0, hp0⟩ : ∃ p0, p0 = L % 4294967296 := ⟨_, rfl⟩
    obtain ⟨q1, hq1⟩ : ∃ q1, q1 = u / n1 := ⟨_, rfl⟩
    obtain ⟨v, hv⟩ : ∃ v, v = (u - q1 * n1) * 4294967296 + p1 := ⟨_, rfl⟩
    obtain ⟨q0, hq0⟩ : ∃ q0, q0 = v / n1 := ⟨_, rfl⟩
    obtain ⟨R, hR⟩ : ∃ R, R = (v - q0 * n1) * 4294967296 + p0 := ⟨_, rfl⟩
    have hYn : Y = n1 * 4294967296 := by rw [hY, hn1, hn]
    rw [← hn1] at hn0
    obtain ⟨f1, f2, f3, f4, f5, f6, f7, f8, f9⟩ := div_steps hY hYn hn0 hu hL (by omega) hp1 hp0 hq1 hv hq0 hR hh hl
    rw [← f1, ← f2]
    have hLl : L < 18446744073709551616 := by rw [hL]; exact Nat.mod_lt _ (by decide)
    have hY64 : Y < 18446744073709551616 := by rw [hY]; exact hY1
    have g1 : q1 * Y = q1 * n1 * 4294967296 := by rw [hYn, Nat.mul_assoc]
    have g0 : q0 * Y = q0 * n1 * 4294967296 := by rw [hYn, Nat.mul_assoc]
    have pc : (((2 : Nat) ^ s : Nat) : Int) = 2 ^ s := by simp
    have pd : (((2 : Nat) ^ (64 - s) : Nat) : Int) = 2 ^ (64 - s) := by simp
    refine div64_walk hi lo y s w hs hy (by omega) (by omega) (by rw [beq_eq_false_iff_ne]; omega) hs1 (Y : Nat) (n1 : Nat) ((hi * 2 ^ s : Nat) : Int) ((lo / 2 ^ (64 - s) : Nat) : Int) (u : Nat) (L : Nat) (p1 : Nat) (p0 : Nat) (q1 : Nat) ((u - q1 * n1 : Nat) : Int) (v : Nat) (q0 : Nat) ((v - q0 * n1 : Nat) : Int) _ _ ?_ ?_ ?_ ?_ ?_ ?_ ?_ ?_ ?_ ?_ ?_ ?_ ?_ ?_ ?_ ?_ ?_ ?_ ?_ ?_ ?_
    · rw [← pc, ← Int.natCast_mul, ← hY, IntKind.wrap_u64]; omega
    · omega
    · have : Y % 4294967296 = 0 := by omega
      rw [and_mask (Y : Int) (by omega) (by omega)]; omega
    · rw [← pc, ← Int.natCast_mul, IntKind.wrap_u64]; omega
    · rw [← pd, ← Int.natCast_ediv]
    · rw [or_sum64 hH1 hl5 hs1, hu]
    · rw [← pc, ← Int.natCast_mul, IntKind.wrap_u64, hL]; omega
    · omega
    · rw [and_mask (L : Int) (by omega) (by omega), hp0]; omega
    · omega
    · rw [show ((u : Int)).tdiv (n1 : Int) = ((u / n1 : Nat) : Int) from rfl, ← hq1, IntKind.wrap_u64]; omega
    · rw [← Int.natCast_mul]
      generalize q1 * n1 = a at *
      rw [IntKind.wrap_u64, IntKind.wrap_u64]
      omega
    · omega
    · rw [IntKind.wrap_u64]; omega
    · rw [← Int.natCast_mul, g1]
      exact wrap3n f8 hv (by omega)
    · rw [show ((v : Int)).tdiv (n1 : Int) = ((v / n1 : Nat) : Int) from rfl, ← hq0, IntKind.wrap_u64]; omega
    · rw [← Int.natCast_mul]
      generalize q0 * n1 = a at *
      rw [IntKind.wrap_u64, IntKind.wrap_u64]
      omega
    · omega
    · rw [IntKind.wrap_u64]; omega
    · rw [IntKind.wrap_u64, IntKind.wrap_u64]; omega
    · rw [← Int.natCast_mul, g0, ← pc, Int.natCast_ediv]
      rw [wrap3n f9 hR (by omega)]
end Go.Proofs.YtnjagokojdpgpabDoor
