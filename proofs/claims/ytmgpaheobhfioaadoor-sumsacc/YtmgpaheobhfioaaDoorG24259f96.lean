/- math/bits: how many bits a number has, above and below. -/
import Derived.Test.YtmgpaheobhfioaaDoorG75224c71
import Derived.Test.YtmgpaheobhfioaaDoorG6288148b
import Derived.Shelf.Small.Bits
import Derived.Shelf.Spec.TrailingZeros
import Derived.Test.YtmgpaheobhfioaaDoorGb5d5ad33
import Derived.Test.YtmgpaheobhfioaaDoorGc6c2317b
namespace Go.Proofs.YtmgpaheobhfioaaDoor
open Go.RowKit
set_option linter.unusedVariables false
set_option linter.unusedSimpArgs false

theorem bitLen_blen : ∀ (k x : Nat), k ≤ 64 → x < 2 ^ k → Lib.bitLen x = blen x := by
  intro k
  induction k with
  | zero =>
    intro x _ h
    have : x = 0 := by omega
    subst this
    decide
  | succ k ih =>
    intro x hk h
    by_cases h0 : x = 0
    · subst h0; decide
    · have h1 : 2 ^ (k + 1) ≤ 2 ^ 64 := Nat.pow_le_pow_right (by decide) hk
      rw [Lib.bitLen_half x h0 (by omega), ← blen_half (by omega : 0 < x), ih (x / 2) (by omega) (by rw [Nat.pow_succ] at h; omega)]
      omega
def lenRen : Go.Shelf.Ren := ⟨fun | 129 => 95 | 134 => 94 | n => n, fun | 3 => 3 | 4 => 4 | 5 => 5 | 9 => 9 | 46 => 83 | 53 => 48 | n => n, fun n => n⟩
set_option maxRecDepth 1000000 in
theorem lays134 : Lays.n134 Tryd.prog lenRen := { mixed := by kernel_rfl, f129 := by kernel_rfl, f134 := by kernel_rfl, t3 := by kernel_rfl, a3 := fun _ => by kernel_rfl, z3 := fun _ => by kernel_rfl, v3 := fun _ => by kernel_rfl, t4 := by kernel_rfl, a4 := fun _ => by kernel_rfl, z4 := fun _ => by kernel_rfl, v4 := fun _ => by kernel_rfl, t5 := by kernel_rfl, a5 := fun _ => by kernel_rfl, z5 := fun _ => by kernel_rfl, v5 := fun _ => by kernel_rfl, t9 := by kernel_rfl, a9 := fun _ => by kernel_rfl, z9 := fun _ => by kernel_rfl, v9 := fun _ => by kernel_rfl, t46 := by kernel_rfl, a46 := fun _ => by kernel_rfl, z46 := fun _ => by kernel_rfl, v46 := fun _ => by kernel_rfl, t53 := by kernel_rfl, a53 := fun _ => by kernel_rfl, z53 := fun _ => by kernel_rfl, v53 := fun _ => by kernel_rfl }
theorem lays129 : Lays.n129 Tryd.prog lenRen := { lays134 with }
theorem len64_any (x : Nat) (w : World) (hx : x < 18446744073709551616) : Calls Tryd.prog 95 #[.int .u64 (x : Int)] w fun e w' => e = .returned (.int .i64 (blen x : Nat)) ∧ w' = w := by
  have h := Any.bits_Len64 lays129 (x : Int) w (by omega) (by omega)
  rw [show ((x : Int)).toNat = x from rfl, bitLen_blen 64 x (by decide) hx] at h
  exact h
theorem blen_le64 {x : Nat} (hx : x < 18446744073709551616) : blen x ≤ 64 := blen_le (by omega)
theorem lz64_any (x : Nat) (w : World) (hx : x < 18446744073709551616) : Calls Tryd.prog 94 #[.int .u64 (x : Int)] w fun e w' => e = .returned (.int .i64 ((64 - blen x : Nat) : Int)) ∧ w' = w := by
  have h := Any.bits_LeadingZeros64 lays134 (x : Int) w (by omega) (by omega)
  have hl := blen_le64 hx
  rw [show ((x : Int)).toNat = x from rfl, bitLen_blen 64 x (by decide) hx, show (64 - (blen x : Int)) = ((64 - blen x : Nat) : Int) by omega] at h
  exact h
def tzRen : Go.Shelf.Ren := ⟨fun | 29 => 96 | n => n, fun | 0 => 0 | 3 => 3 | 4 => 4 | 5 => 5 | 22 => 48 | 25 => 83 | 54 => 123 | n => n, fun | 1 => 3 | n => n⟩
set_option maxRecDepth 1000000 in
theorem lays29 : Lays7.n29 Tryd.prog tzRen := { mixed := by kernel_rfl, f29 := by kernel_rfl, t0 := by kernel_rfl, a0 := fun _ => by kernel_rfl, z0 := fun _ => by kernel_rfl, v0 := fun _ => by kernel_rfl, i0 := by kernel_rfl, t3 := by kernel_rfl, a3 := fun _ => by kernel_rfl, z3 := fun _ => by kernel_rfl, v3 := fun _ => by kernel_rfl, i3 := by kernel_rfl, t4 := by kernel_rfl, a4 := fun _ => by kernel_rfl, z4 := fun _ => by kernel_rfl, v4 := fun _ => by kernel_rfl, i4 := by kernel_rfl, t5 := by kernel_rfl, a5 := fun _ => by kernel_rfl, z5 := fun _ => by kernel_rfl, v5 := fun _ => by kernel_rfl, i5 := by kernel_rfl, t22 := by kernel_rfl, a22 := fun _ => by kernel_rfl, z22 := fun _ => by kernel_rfl, v22 := fun _ => by kernel_rfl, i22 := by kernel_rfl, t25 := by kernel_rfl, a25 := fun _ => by kernel_rfl, z25 := fun _ => by kernel_rfl, v25 := fun _ => by kernel_rfl, i25 := by kernel_rfl, t54 := by kernel_rfl, a54 := fun _ => by kernel_rfl, z54 := fun _ => by kernel_rfl, g1 := by kernel_rfl }
/-- The table of math/bits lies in its variable. -/
def Tab (w : World) : Prop := TabAt 3 Lib.deBruijn64tab w
theorem Q.tab {w w' : World} (q : Q w w') (h : Tab w) : Tab w' := fun j hj => q.cell (h j hj)
theorem tz64_any (x : Nat) (w : World) (hx : x < 18446744073709551616) (hT : Tab w) : Calls Tryd.prog 96 #[.int .u64 (x : Int)] w fun e w' => e = .returned (.int .i64 (Lib.ctz 64 x : Nat)) ∧ w' = w :=
  Any7.bits_TrailingZeros64 lays29 x hx w (fun _ => hT)
/-- What the last bits of a number are. -/
theorem ctz_spec {x : Nat} (h0 : x ≠ 0) (hx : x < 18446744073709551616) : ∃ m, x = 2 ^ Lib.ctz 64 x * (2 * m + 1) ∧ Lib.ctz 64 x < 64 := by
  unfold Lib.ctz
  rw [if_neg h0]
  exact Lib.ctzFrom_spec 64 x (by omega) (by omega)
end Go.Proofs.YtmgpaheobhfioaaDoor
/- math/bits.Div64 by a number below 2^32. -/
namespace Go.Proofs.YtmgpaheobhfioaaDoor
open Go.RowKit
set_option linter.unusedVariables false
set_option linter.unusedSimpArgs false

set_option maxHeartbeats 4000000 in
set_option maxRecDepth 100000 in
theorem div64_zero (lo y q r : Nat) (w : World) (h0 : 0 < y) (E3 : Hid (IntKind.u64.wrap ((lo : Int) / (y : Int)) = (q : Int))) (E4 : Hid ((lo : Int) % (y : Int) = (r : Int))) : Calls Tryd.prog 89 #[.int .u64 0, .int .u64 (lo : Int), .int .u64 (y : Int)] w fun e w' => e = .returned (.tuple #[.int .u64 (q : Int), .int .u64 (r : Int)]) ∧ Q w w' := by
  have e0 : ((y : Int) == 0) = false := by rw [beq_eq_false_iff_ne]; omega
  have e1 : ¬ (y : Int) ≤ 0 := by omega
  have e2 : ¬ (y : Int) = 0 := by omega
  go_enter Tryd.func89, Tryd.ntmps89
  go_wp2_with fail
  have e5 : ¬ y = 0 := by omega
  refine wp_region_quiet_Q (by kernel_rfl) (by kernel_rfl) ?_
  repeat (first | go_big_quiet_step (rfl) | quiet_step (rfl))
  refine wpQuiet_nil ?_
  intro w4 hw'
  have hq4 := qw_out hw'
  clear hw'
  go_wp2_with fail
  go_ret2
  exact ⟨by rw [E4.out, E3.out]; rfl, hq4⟩
set_option maxHeartbeats 4000000 in
set_option maxRecDepth 100000 in
theorem div64_walk (hi lo y s : Nat) (w : World) (hb : 64 - blen y = s) (hy' : y < 4294967296) (h0 : 0 < y) (e1 : ¬ (y : Int) ≤ hi) (e2 : ((hi : Int) == 0) = false) (s1 : s < 64)
    (Y n1 H l5 u L p1 p0 q1 r1 v q0 r0 q r : Int)
    (a1 : IntKind.u64.wrap ((y : Int) * 2 ^ s) = Y) (a2 : Y / 4294967296 = n1) (a3 : bits .and .u64 Y 4294967295 = 0) (a4 : IntKind.u64.wrap ((hi : Int) * 2 ^ s) = H) (a5 : (lo : Int) / 2 ^ (64 - s) = l5)
    (a6 : bits .or .u64 H l5 = u) (a7 : IntKind.u64.wrap ((lo : Int) * 2 ^ s) = L) (a8 : L / 4294967296 = p1) (a9 : bits .and .u64 L 4294967295 = p0) (n0 : ¬ n1 = 0)
    (a10 : IntKind.u64.wrap (u.tdiv n1) = q1) (a11 : IntKind.u64.wrap (u - IntKind.u64.wrap (q1 * n1)) = r1) (t1 : ¬ 4294967296 ≤ q1) (t2 : ¬ IntKind.u64.wrap (IntKind.u64.wrap (4294967296 * r1) + p1) < 0)
    (a12 : IntKind.u64.wrap (IntKind.u64.wrap (IntKind.u64.wrap (u * 4294967296) + p1) - IntKind.u64.wrap (q1 * Y)) = v) (a13 : IntKind.u64.wrap (v.tdiv n1) = q0) (a14 : IntKind.u64.wrap (v - IntKind.u64.wrap (q0 * n1)) = r0)
    (t3 : ¬ 4294967296 ≤ q0) (t4 : ¬ IntKind.u64.wrap (IntKind.u64.wrap (4294967296 * r0) + p0) < 0) (a15 : IntKind.u64.wrap (IntKind.u64.wrap (q1 * 4294967296) + q0) = q)
    (a16 : IntKind.u64.wrap (IntKind.u64.wrap (IntKind.u64.wrap (v * 4294967296) + p0) - IntKind.u64.wrap (q0 * Y)) / 2 ^ s = r) : Calls Tryd.prog 89 #[.int .u64 (hi : Int), .int .u64 (lo : Int), .int .u64 (y : Int)] w fun e w' => e = .returned (.tuple #[.int .u64 q, .int .u64 r]) ∧ Q w w' := by
  have e0 : ((y : Int) == 0) = false := by rw [beq_eq_false_iff_ne]; omega
  have T2 : Hid (¬ IntKind.u64.wrap (IntKind.u64.wrap (4294967296 * r1) + p1) < 0) := t2
  have T4 : Hid (¬ IntKind.u64.wrap (IntKind.u64.wrap (4294967296 * r0) + p0) < 0) := t4
  clear t2 t4
  go_enter Tryd.func89, Tryd.ntmps89
  go_wp2_with fail
  refine (lz64_any y _ (by omega)).mono ?_
  rintro e w1 ⟨rfl, rfl⟩
  rw [hb]
  go_wp2_with fail
  go_loopg [15, 16] (0) (fun gh s15 s16 wr => s15 = .int .u64 q1 ∧ s16 = .int .u64 r1 ∧ gh = 0 ∧ wr = w1)
  case atStart => exact ⟨rfl, rfl, rfl, rfl⟩
  case round =>
    obtain ⟨rfl, rfl, rfl, rfl⟩ := hrel
    have t2 := T2.out
    go_wp2_with fail
    clear t2
    go_loopg [16, 18] (0) (fun gh s16 s18 wx => s18 = .int .u64 q0 ∧ s16 = .int .u64 r0 ∧ gh = 0 ∧ wx = wr)
    case atStart => exact ⟨rfl, rfl, rfl, rfl⟩
    case round =>
      obtain ⟨rfl, rfl, rfl, rfl⟩ := hrel
      have t4 := T4.out
      go_wp2_with fail
      go_ret2
      exact ⟨rfl, Q.refl _⟩
/-- The digits of a long division in two steps. -/
theorem div_steps {hi lo y s Y n1 u L p1 p0 q1 v q0 R : Nat} (hY : Y = y * 2 ^ s) (hn : Y = n1 * 4294967296) (hn0 : 0 < n1) (hu : u = hi * 2 ^ s + lo / 2 ^ (64 - s)) (hL : L = lo * 2 ^ s % 18446744073709551616) (hs : s ≤ 64) (hp1 : p1 = L / 4294967296) (hp0 : p0 = L % 4294967296)
    (hq1 : q1 = u / n1) (hv : v = (u - q1 * n1) * 4294967296 + p1) (hq0 : q0 = v / n1) (hR : R = (v - q0 * n1) * 4294967296 + p0) (hh : hi < y) (hl : lo < 18446744073709551616) :
    q1 * 4294967296 + q0 = (hi * 18446744073709551616 + lo) / y ∧ R / 2 ^ s = (hi * 18446744073709551616 + lo) % y ∧ q1 < 4294967296 ∧ q0 < 4294967296 ∧ u < Y ∧ v < Y ∧ R < Y ∧ q1 * n1 ≤ u ∧ q0 * n1 ≤ v := by
  have hp : 0 < 2 ^ s := Nat.two_pow_pos s
  have hpow : (2 : Nat) ^ 64 = 2 ^ (64 - s) * 2 ^ s := by rw [← Nat.pow_add]; congr 1; omega
  have hLo : lo * 2 ^ s = lo / 2 ^ (64 - s) * 18446744073709551616 + L := by
    have h1 := Nat.div_add_mod (lo * 2 ^ s) 18446744073709551616
    have h2 : lo * 2 ^ s / 18446744073709551616 = lo / 2 ^ (64 - s) := by
      rw [show (18446744073709551616 : Nat) = 2 ^ 64 from by decide, hpow, Nat.mul_div_mul_right _ _ hp]
    rw [h2, ← hL, Nat.mul_comm] at h1
    omega
  have hL2 : L = p1 * 4294967296 + p0 := by
    rw [hp1, hp0]; omega
  have hp1' : p1 < 4294967296 := by
    have : L < 18446744073709551616 := by rw [hL]; exact Nat.mod_lt _ (by decide)
    rw [hp1]; omega
  have hp0' : p0 < 4294967296 := by rw [hp0]; exact Nat.mod_lt _ (by decide)
  have hu0 : lo / 2 ^ (64 - s) < 2 ^ s := by
    rw [Nat.div_lt_iff_lt_mul (Nat.two_pow_pos _), Nat.mul_comm, ← hpow]
    exact hl
  have huY : u < Y := by
    have h1 := Nat.mul_le_mul_right (2 ^ s) (show hi + 1 ≤ y from hh)
    rw [Nat.add_mul, Nat.one_mul] at h1
    omega
  have hu1 : u = q1 * n1 + u % n1 := by
    rw [hq1, Nat.mul_comm]
    exact (Nat.div_add_mod u n1).symm
  have hu2 : u % n1 < n1 := Nat.mod_lt _ hn0
  have hq1' : q1 < 4294967296 := by
    rw [hq1, Nat.div_lt_iff_lt_mul hn0, Nat.mul_comm]
    omega
  have hv1 : v = u % n1 * 4294967296 + p1 := by rw [hv]; omega
  have hvY : v < Y := by omega
  have hv2 : v = q0 * n1 + v % n1 := by
    rw [hq0, Nat.mul_comm]
    exact (Nat.div_add_mod v n1).symm
  have hv3 : v % n1 < n1 := Nat.mod_lt _ hn0
  have hq0' : q0 < 4294967296 := by
    rw [hq0, Nat.div_lt_iff_lt_mul hn0, Nat.mul_comm]
    omega
  have hR1 : R = v % n1 * 4294967296 + p0 := by rw [hR]; omega
  have hRY : R < Y := by omega
  have hN : (hi * 18446744073709551616 + lo) * 2 ^ s = u * 18446744073709551616 + L := by
    rw [Nat.add_mul, hu, hLo, Nat.add_mul]
    have : hi * 18446744073709551616 * 2 ^ s = hi * 2 ^ s * 18446744073709551616 := by rw [Nat.mul_assoc, Nat.mul_comm 18446744073709551616, ← Nat.mul_assoc]
    omega
  have hN2 : (q1 * 4294967296 + q0) * Y = q1 * n1 * 18446744073709551616 + q0 * n1 * 4294967296 := by
    rw [hn]
    grind
  have hN3 : (hi * 18446744073709551616 + lo) * 2 ^ s = (q1 * 4294967296 + q0) * y * 2 ^ s + R := by
    rw [Nat.mul_assoc, ← hY, hN2, hN]
    omega
  have hR2 : R / 2 ^ s < y := by
    rw [Nat.div_lt_iff_lt_mul hp, ← hY]
    exact hRY
  have hN4 : hi * 18446744073709551616 + lo = (q1 * 4294967296 + q0) * y + R / 2 ^ s := by
    have h1 : (hi * 18446744073709551616 + lo) * 2 ^ s / 2 ^ s = hi * 18446744073709551616 + lo := Nat.mul_div_cancel _ hp
    rw [hN3, Nat.add_comm, Nat.add_mul_div_right _ _ hp] at h1
    omega
  have hy : 0 < y := by omega
  have hd : (hi * 18446744073709551616 + lo) / y = q1 * 4294967296 + q0 ∧ (hi * 18446744073709551616 + lo) % y = R / 2 ^ s := by
    refine (Nat.div_mod_unique hy).2 ⟨?_, hR2⟩
    rw [hN4, Nat.mul_comm y]
    omega
  exact ⟨hd.1.symm, hd.2.symm, hq1', hq0', huY, hvY, hRY, by omega, by omega⟩
theorem pow32 {s : Nat} (h : 32 ≤ s) : 2 ^ s = 4294967296 * 2 ^ (s - 32) := by
  rw [show (4294967296 : Nat) = 2 ^ 32 by decide, ← Nat.pow_add]
  congr 1
  omega
theorem or_sum64 {a b s : Nat} (ha : a * 2 ^ s < 18446744073709551616) (hb : b < 2 ^ s) (hs : s < 64) : bits .or .u64 ((a * 2 ^ s : Nat) : Int) (b : Int) = ((a * 2 ^ s + b : Nat) : Int) := by
  have hb' : b < 18446744073709551616 := Nat.lt_of_lt_of_le hb (Nat.le_trans (Nat.pow_le_pow_right (by decide) (Nat.le_of_lt hs)) (by decide))
  have e : bits .or .u64 ((a * 2 ^ s : Nat) : Int) (b : Int) = ((a * 2 ^ s ||| b : Nat) : Int) := by
    generalize a * 2 ^ s = x at *
    go_bits2
  rw [e, Nat.mul_comm a, ← Nat.two_pow_add_eq_or_of_lt hb]
theorem wrap3 (X P A M : Int) : ((X % M + P) % M - A % M) % M = (X + P - A) % M := by
  rw [Int.emod_add_emod, ← Int.sub_emod]
theorem wrap3n {x a p v : Nat} (h : a ≤ x) (hv : v = (x - a) * 4294967296 + p) (hl : v < 18446744073709551616) : IntKind.u64.wrap (IntKind.u64.wrap (IntKind.u64.wrap ((x : Int) * 4294967296) + (p : Int)) - IntKind.u64.wrap ((a * 4294967296 : Nat) : Int)) = (v : Int) := by
  rw [IntKind.wrap_u64, IntKind.wrap_u64, IntKind.wrap_u64, IntKind.wrap_u64, wrap3]
  have e : (x : Int) * 4294967296 + (p : Int) - ((a * 4294967296 : Nat) : Int) = (v : Int) := by omega
  rw [e]
  exact Int.emod_eq_of_lt (by omega) (by omega)
set_option maxHeartbeats 1000000 in
theorem div64_any (hi lo y : Nat) (w : World) (hl : lo < 18446744073709551616) (hy : y < 4294967296) (hh : hi < y) : Calls Tryd.prog 89 #[.int .u64 (hi : Int), .int .u64 (lo : Int), .int .u64 (y : Int)] w fun e w' => e = .returned (.tuple #[.int .u64 (((hi * 18446744073709551616 + lo) / y : Nat) : Int), .int .u64 (((hi * 18446744073709551616 + lo) % y : Nat) : Int)]) ∧ Q w w' := by
  rcases Nat.eq_zero_or_pos hi with h | h
  · subst h
    rw [Nat.zero_mul, Nat.zero_add]
    refine div64_zero lo y _ _ w hh ?_ ?_
    · have h1 : lo / y ≤ lo := Nat.div_le_self _ _
      show IntKind.u64.wrap ((lo : Int) / (y : Int)) = _
      rw [← Int.natCast_ediv, IntKind.wrap_u64]
      generalize lo / y = a at *
      exact Int.emod_eq_of_lt (by omega) (by omega)
    · show ((lo : Int) % (y : Int)) = _
      rw [← Int.natCast_emod]
  · have hb1 : blen y ≤ 32 := blen_le hy
    have hb0 : y < 2 ^ blen y := blen_lt y
    obtain ⟨s, hs⟩ : ∃ s, 64 - blen y = s := ⟨_, rfl⟩
    have hy0 : y ≠ 0 := by omega
    have hbl : blen y = y.log2 + 1 := if_neg hy0
    have hlog : 2 ^ y.log2 ≤ y := Nat.log2_self_le hy0
    have hs0 : 32 ≤ s := by omega
    have hs1 : s < 64 := by omega
    have hpow : (2 : Nat) ^ 64 = 2 ^ blen y * 2 ^ s := by rw [← Nat.pow_add]; congr 1; omega
    have hY1 : y * 2 ^ s < 18446744073709551616 := by
      have := Nat.mul_lt_mul_of_pos_right hb0 (Nat.two_pow_pos s)
      rw [← hpow] at this
      exact this
    have hH1 : hi * 2 ^ s < 18446744073709551616 := Nat.lt_trans (Nat.mul_lt_mul_of_pos_right hh (Nat.two_pow_pos s)) hY1
    have hl5 : lo / 2 ^ (64 - s) < 2 ^ s := by
      rw [Nat.div_lt_iff_lt_mul (Nat.two_pow_pos _), ← Nat.pow_add, show s + (64 - s) = 64 by omega]
      exact hl
    have hn : y * 2 ^ s = y * 2 ^ (s - 32) * 4294967296 := by rw [pow32 hs0]; grind
    have hn0 : 0 < y * 2 ^ (s - 32) := Nat.mul_pos (by omega) (Nat.two_pow_pos _)
    obtain ⟨Y, hY⟩ : ∃ Y, Y = y * 2 ^ s := ⟨_, rfl⟩
    obtain ⟨n1, hn1⟩ : ∃ n1, n1 = y * 2 ^ (s - 32) := ⟨_, rfl⟩
    obtain ⟨u, hu⟩ : ∃ u, u = hi * 2 ^ s + lo / 2 ^ (64 - s) := ⟨_, rfl⟩
    obtain ⟨L, hL⟩ : ∃ L, L = lo * 2 ^ s % 18446744073709551616 := ⟨_, rfl⟩
    obtain ⟨p1, hp1⟩ : ∃ p1, p1 = L / 4294967296 := ⟨_, rfl⟩
    obtain ⟨p0, hp0⟩ : ∃ p0, p0 = L % 4294967296 := ⟨_, rfl⟩
    obtain ⟨q1, hq1⟩ : ∃ q1, q1 = u / n1 := ⟨_, rfl⟩
    obtain ⟨v, hv⟩ : ∃ v, v = (u - q1 * n1) * 4294967296 + p1 := ⟨_, rfl⟩
    obtain ⟨q0, hq0⟩ : ∃ q0, q0 = v / n1 := ⟨_, rfl⟩
    obtain ⟨R, hR⟩ : ∃ R, R = (v - q0 * n1) * 4294967296 + p0 := ⟨_, rfl⟩
    have hYn : Y = n1 * 4294967296 := by rw [hY, hn1, hn]
    rw [← hn1] at hn0
    obtain ⟨f1, f2, f3, f4, f5, f6, f7, f8, f9⟩ := div_steps hY hYn hn0 hu hL (by omega) hp1 hp0 hq1 hv hq0 hR hh hl
    rw [← f1, ← f2]
    have hLl : L < 18446744073709551616 := by rw [hL]; exact Nat.mod_lt _ (by decide)
    have hY64 : Y < 18446744073709551616 := by rw [hY]; exact hY1
    have g1 : q1 * Y = q1 * n1 * 4294967296 := by rw [hYn, Nat.mul_assoc]
    have g0 : q0 * Y = q0 * n1 * 4294967296 := by rw [hYn, Nat.mul_assoc]
    have pc : (((2 : Nat) ^ s : Nat) : Int) = 2 ^ s := by simp
    have pd : (((2 : Nat) ^ (64 - s) : Nat) : Int) = 2 ^ (64 - s) := by simp
    refine div64_walk hi lo y s w hs hy (by omega) (by omega) (by rw [beq_eq_false_iff_ne]; omega) hs1 (Y : Nat) (n1 : Nat) ((hi * 2 ^ s : Nat) : Int) ((lo / 2 ^ (64 - s) : Nat) : Int) (u : Nat) (L : Nat) (p1 : Nat) (p0 : Nat) (q1 : Nat) ((u - q1 * n1 : Nat) : Int) (v : Nat) (q0 : Nat) ((v - q0 * n1 : Nat) : Int) _ _ ?_ ?_ ?_ ?_ ?_ ?_ ?_ ?_ ?_ ?_ ?_ ?_ ?_ ?_ ?_ ?_ ?_ ?_ ?_ ?_ ?_
    · rw [← pc, ← Int.natCast_mul, ← hY, IntKind.wrap_u64]; omega
    · omega
    · have : Y % 4294967296 = 0 := by omega
      rw [and_mask (Y : Int) (by omega) (by omega)]; omega
    · rw [← pc, ← Int.natCast_mul, IntKind.wrap_u64]; omega
    · rw [← pd, ← Int.natCast_ediv]
    · rw [or_sum64 hH1 hl5 hs1, hu]
    · rw [← pc, ← Int.natCast_mul, IntKind.wrap_u64, hL]; omega
    · omega
    · rw [and_mask (L : Int) (by omega) (by omega), hp0]; omega
    · omega
    · rw [show ((u : Int)).tdiv (n1 : Int) = ((u / n1 : Nat) : Int) from rfl, ← hq1, IntKind.wrap_u64]; omega
    · rw [← Int.natCast_mul]
      generalize q1 * n1 = a at *
      rw [IntKind.wrap_u64, IntKind.wrap_u64]
      omega
    · omega
    · rw [IntKind.wrap_u64]; omega
    · rw [← Int.natCast_mul, g1]
      exact wrap3n f8 hv (by omega)
    · rw [show ((v : Int)).tdiv (n1 : Int) = ((v / n1 : Nat) : Int) from rfl, ← hq0, IntKind.wrap_u64]; omega
    · rw [← Int.natCast_mul]
      generalize q0 * n1 = a at *
      rw [IntKind.wrap_u64, IntKind.wrap_u64]
      omega
    · omega
    · rw [IntKind.wrap_u64]; omega
    · rw [IntKind.wrap_u64, IntKind.wrap_u64]; omega
    · rw [← Int.natCast_mul, g0, ← pc, Int.natCast_ediv]
      rw [wrap3n f9 hR (by omega)]
end Go.Proofs.YtmgpaheobhfioaaDoor
/- Numbers of five words: how many bits they have, above and below. -/
namespace Go.Proofs.YtmgpaheobhfioaaDoor
open Go.RowKit
set_option linter.unusedVariables false
set_option linter.unusedSimpArgs false

theorem m64_pow (i : Nat) : m64 ^ i = 2 ^ (64 * i) := by rw [← two64, Nat.pow_mul]
theorem valW_above {N : Nat → Nat} {i : Nat} : ∀ k, (∀ j, i ≤ j → j < i + k → N j = 0) → valW N (i + k) = valW N i := by
  intro k
  induction k with
  | zero => intro _; rw [Nat.add_zero]
  | succ k ih =>
    intro h
    have e1 : valW N (i + (k + 1)) = valW N (i + k) + N (i + k) * m64 ^ (i + k) := valW_succ _ _
    rw [e1, ih (fun j h1 h2 => h j h1 (by omega)), h (i + k) (by omega) (by omega), Nat.zero_mul, Nat.add_zero]
theorem valW_blen {N : Nat → Nat} (hN : ∀ i, N i < m64) {i : Nat} (hi : i < 5) (h : ∀ j, i < j → j < 5 → N j = 0) (h0 : N i ≠ 0) : blen (valW N 5) = 64 * i + blen (N i) := by
  have e : valW N 5 = valW N (i + 1) := by
    have := valW_above (N := N) (i := i + 1) (4 - i) (fun j h1 h2 => h j (by omega) (by omega))
    rw [show i + 1 + (4 - i) = 5 by omega] at this
    exact this
  have hl := valW_lt hN i
  rw [e, valW_succ]
  have hp : 0 < m64 ^ i := Nat.pow_pos (by decide)
  have e2 : (valW N i + N i * m64 ^ i) / m64 ^ i = N i := by
    rw [Nat.add_mul_div_right _ _ hp, Nat.div_eq_of_lt hl, Nat.zero_add]
  rw [blen_shift _ (64 * i), ← m64_pow, e2]
  rw [← m64_pow]
  have := Nat.mul_le_mul_right (m64 ^ i) (show 1 ≤ N i by omega)
  omega
theorem valW_none5 {N : Nat → Nat} (h : ∀ j, j < 5 → N j = 0) : valW N 5 = 0 := (valW_zero 5).2 h
theorem ne_of {n : Nat} (h : n ≠ 0) : ((n : Int) != 0) = true := by rw [bne_iff_ne]; omega
theorem eq_of {n : Nat} (h : n = 0) : ((n : Int) != 0) = false := by rw [h]; rfl
/-- A box of five words, newly made. -/
theorem box_words (w : World) (N : Nat → Nat) : WIs (w.alloc (Obj.cells #[.int .u64 (N 0 : Nat), .int .u64 (N 1 : Nat), .int .u64 (N 2 : Nat), .int .u64 (N 3 : Nat), .int .u64 (N 4 : Nat)] 66)) w.heap.size N := by
  intro j hj
  rcases j with _ | _ | _ | _ | _ | j
  · simp [go_sem]
  · simp [go_sem]
  · simp [go_sem]
  · simp [go_sem]
  · simp [go_sem]
  · omega
set_option maxHeartbeats 2000000 in
set_option maxRecDepth 100000 in
theorem length_any (N : Nat → Nat) (hN : ∀ i, N i < m64) (w : World) : Calls Tryd.prog 90 #[numV N] w fun e w' => e = .returned (.int .i64 (blen (valW N 5) : Nat)) ∧ Q w w' := by
  have HN : Hid (∀ i, N i < m64) := hN
  clear hN
  unfold numV
  go_enter Tryd.func90, Tryd.ntmps90
  go_wp2_with fail
  have HB : Hid (WIs _ _ N) := box_words w N
  have HQ : Hid (Q w _) := (Q.refl w).cells #[.int .u64 (N 0 : Nat), .int .u64 (N 1 : Nat), .int .u64 (N 2 : Nat), .int .u64 (N 3 : Nat), .int .u64 (N 4 : Nat)] 66
  generalize w.alloc (Obj.cells #[.int .u64 (N 0 : Nat), .int .u64 (N 1 : Nat), .int .u64 (N 2 : Nat), .int .u64 (N 3 : Nat), .int .u64 (N 4 : Nat)] 66) = x0 at *
  go_loopg [3] (5) (fun gh s3 wr => ∃ (i : Nat) (z : Int), s3 = .int .i64 z ∧ z = (i : Int) - 1 ∧ i ≤ 5 ∧ gh = 0 + i ∧ Hid (∀ j, i ≤ j → j < 5 → N j = 0) ∧ wr = x0)
  case atStart => exact ⟨5, 4, rfl, rfl, by omega, rfl, fun j h1 h2 => by omega, rfl⟩
  case round =>
    obtain ⟨i, z, rfl, hz, hi, rfl, HU, rfl⟩ := hrel
    rcases i with _ | k
    · obtain rfl : z = -1 := by omega
      clear hz
      have HV : Hid (blen (valW N 5) = 0) := by
        show blen (valW N 5) = 0
        rw [valW_none5 (fun j hj => HU.out j (by omega) hj)]; rfl
      go_wp2_with fail
      go_ret
      exact ⟨by rw [HV.out]; rfl, HQ.out⟩
    · obtain rfl : z = (k : Int) := by omega
      clear hz
      have c := HB.out k (by omega)
      have hk : (k : Int) < 5 := by omega
      by_cases h0 : N k = 0
      · have e1 := eq_of h0
        go_wp2_with fail
        go_roundg (k)
        case measure => go_light; omega
        case rel =>
          go_light
          refine ⟨k, _, rfl, by omega, by omega, (Nat.zero_add k).symm, fun j h1 h2 => ?_, rfl⟩
          rcases Nat.lt_or_ge k j with g | g
          · exact HU.out j g h2
          · obtain rfl : j = k := by omega
            exact h0
      · have e1 := ne_of h0
        have HV : Hid (blen (valW N 5) = 64 * k + blen (N k)) := valW_blen HN.out (by omega) (fun j h1 h2 => HU.out j (by omega) h2) h0
        have hb := blen_le64 (HN.out k)
        go_wp2_with fail
        refine (len64_any (N k) _ (HN.out k)).mono ?_
        rintro e w1 ⟨rfl, rfl⟩
        go_wp2_with fail
        go_ret
        exact ⟨by rw [HV.out]; simp, HQ.out⟩
theorem valW_split (N : Nat → Nat) (i : Nat) : ∀ k, ∃ K, valW N (i + k) = valW N i + K * m64 ^ i := by
  intro k
  induction k with
  | zero => exact ⟨0, by rw [Nat.add_zero, Nat.zero_mul, Nat.add_zero]⟩
  | succ k ih =>
    obtain ⟨K, hK⟩ := ih
    have e1 : valW N (i + (k + 1)) = valW N (i + k) + N (i + k) * m64 ^ (i + k) := valW_succ _ _
    refine ⟨K + N (i + k) * m64 ^ k, ?_⟩
    rw [e1, hK, Nat.add_mul, Nat.mul_assoc (N (i + k)), ← Nat.pow_add, Nat.add_comm k i, Nat.add_assoc]
theorem odd_mod {V t K b : Nat} (h : V = 2 ^ t * (2 * K + 1)) : t < b ↔ V % 2 ^ b ≠ 0 := by
  constructor
  · intro hb h0
    have hd : 2 ^ b ∣ 2 ^ t * (2 * K + 1) := by rw [← h]; exact Nat.dvd_of_mod_eq_zero h0
    obtain ⟨c, rfl⟩ : ∃ c, b = t + (c + 1) := ⟨b - t - 1, by omega⟩
    rw [Nat.pow_add] at hd
    have h2 := Nat.dvd_of_mul_dvd_mul_left (Nat.two_pow_pos t) hd
    rw [Nat.pow_succ] at h2
    have h3 : 2 ∣ 2 * K + 1 := Nat.dvd_trans (Nat.dvd_mul_left 2 _) h2
    omega
  · intro h0
    rcases Nat.lt_or_ge t b with g | g
    · exact g
    · exfalso
      apply h0
      rw [h, show t = b + (t - b) by omega, Nat.pow_add, Nat.mul_assoc, Nat.mul_mod_right]
theorem tz_words {N : Nat → Nat} (hN : ∀ i, N i < m64) {i : Nat} (hi : i < 5) (h : ∀ j, j < i → N j = 0) (h0 : N i ≠ 0) (b : Nat) : 64 * i + Lib.ctz 64 (N i) < b ↔ valW N 5 % 2 ^ b ≠ 0 := by
  obtain ⟨m, hm, hc⟩ := ctz_spec h0 (hN i)
  obtain ⟨K, hK⟩ := valW_split N (i + 1) (4 - i)
  rw [show i + 1 + (4 - i) = 5 by omega, valW_succ N i, (valW_zero i).2 h, Nat.zero_add] at hK
  generalize Lib.ctz 64 (N i) = c at *
  refine odd_mod (K := m + K * 2 ^ (63 - c)) ?_
  rw [hK, m64_pow, Nat.pow_succ, m64_pow, ← two64, hm, show (2 : Nat) ^ 64 = 2 ^ c * (2 ^ (63 - c) * 2) by rw [← Nat.pow_succ, ← Nat.pow_add]; congr 1; omega, Nat.pow_add]
  generalize 2 ^ c = x
  generalize 2 ^ (63 - c) = y
  generalize 2 ^ (64 * i) = z
  grind
theorem run_ix0 (a0 a1 a2 a3 a4 : Value) (w : World) : (Instr.index 66 (.agg #[a0, a1, a2, a3, a4]) (.int .i64 0)).run Tryd.prog w = .ok a0 w := by kernel_rfl
theorem run_ix1 (a0 a1 a2 a3 a4 : Value) (w : World) : (Instr.index 66 (.agg #[a0, a1, a2, a3, a4]) (.int .i64 1)).run Tryd.prog w = .ok a1 w := by kernel_rfl
theorem run_ix2 (a0 a1 a2 a3 a4 : Value) (w : World) : (Instr.index 66 (.agg #[a0, a1, a2, a3, a4]) (.int .i64 2)).run Tryd.prog w = .ok a2 w := by kernel_rfl
theorem run_ix3 (a0 a1 a2 a3 a4 : Value) (w : World) : (Instr.index 66 (.agg #[a0, a1, a2, a3, a4]) (.int .i64 3)).run Tryd.prog w = .ok a3 w := by kernel_rfl
theorem run_ix4 (a0 a1 a2 a3 a4 : Value) (w : World) : (Instr.index 66 (.agg #[a0, a1, a2, a3, a4]) (.int .i64 4)).run Tryd.prog w = .ok a4 w := by kernel_rfl
set_option maxHeartbeats 4000000 in
set_option maxRecDepth 100000 in
theorem trailing_any (N : Nat → Nat) (hN : ∀ i, N i < m64) (w : World) (hT : Tab w) : Calls Tryd.prog 92 #[numV N] w fun e w' => ∃ t : Nat, e = .returned (.int .i64 (t : Int)) ∧ t ≤ 320 ∧ (∀ b, b ≤ 320 → (t < b ↔ valW N 5 % 2 ^ b ≠ 0)) ∧ Q w w' := by
  have HN : Hid (∀ i, N i < m64) := hN
  have HT : Hid (Tab w) := hT
  clear hN hT
  unfold numV
  go_enter Tryd.func92, Tryd.ntmps92
  go_wp2_with fail
  have HQ : Hid (Q w _) := (Q.refl w).cells #[.int .u64 (N 0 : Nat), .int .u64 (N 1 : Nat), .int .u64 (N 2 : Nat), .int .u64 (N 3 : Nat), .int .u64 (N 4 : Nat)] 66
  generalize w.alloc (Obj.cells #[.int .u64 (N 0 : Nat), .int .u64 (N 1 : Nat), .int .u64 (N 2 : Nat), .int .u64 (N 3 : Nat), .int .u64 (N 4 : Nat)] 66) = x0 at *
  go_loopg [6] (5) (fun gh s6 wr => ∃ (i : Nat), s6 = .int .i64 (i : Int) ∧ i ≤ 5 ∧ gh = 5 - i ∧ Hid (∀ j, j < i → N j = 0) ∧ wr = x0)
  case atStart => exact ⟨0, rfl, by omega, rfl, fun j h1 => by omega, rfl⟩
  case round =>
    obtain ⟨i, rfl, hi, rfl, HU, rfl⟩ := hrel
    have next : N i = 0 → Hid (∀ j, j < i + 1 → N j = 0) := fun h0 j h1 => by
      rcases Nat.lt_or_ge j i with g | g
      · exact HU.out j g
      · obtain rfl : j = i := by omega
        exact h0
    have HX : Hid (N i = 0 → Hid (∀ j, j < i + 1 → N j = 0)) := next
    have HY : Hid (i < 5 → N i ≠ 0 → (64 * i + Lib.ctz 64 (N i) ≤ 320) ∧ ∀ b, b ≤ 320 → (64 * i + Lib.ctz 64 (N i) < b ↔ valW N 5 % 2 ^ b ≠ 0)) := fun g h0 => ⟨by have := (ctz_spec h0 (HN.out i)).choose_spec.2; omega, fun b _ => tz_words HN.out g HU.out h0 b⟩
    have HZ : Hid (i = 5 → ∀ b, b ≤ 320 → (320 < b ↔ valW N 5 % 2 ^ b ≠ 0)) := fun g b hb => by
      subst g
      rw [valW_none5 HU.out, Nat.zero_mod]
      exact ⟨fun h => by omega, fun h => absurd rfl h⟩
    clear next HU
    rcases i with _ | _ | _ | _ | _ | i
    · have l := run_ix0
      by_cases h0 : N 0 = 0
      · have e1 := eq_of h0
        have H0 : Hid (N 0 = 0) := h0
        clear h0
        go_wp2_with fail
        go_roundg (4)
        case measure => go_light; omega
        case rel =>
          go_light
          exact ⟨1, rfl, by omega, rfl, (HX.out H0.out).out, rfl⟩
      · have e1 := ne_of h0
        have k1 := HY.out (by omega) h0
        have hc : Lib.ctz 64 (N 0) ≤ 320 := by have : 64 * 0 + Lib.ctz 64 (N 0) ≤ 320 := k1.1; omega
        have K1 : Hid _ := k1
        clear k1 h0
        go_wp2_with fail
        refine (tz64_any (N 0) _ (HN.out 0) (HQ.out.tab HT.out)).mono ?_
        rintro e w1 ⟨rfl, rfl⟩
        go_wp2_with fail
        go_ret
        exact ⟨64 * 0 + Lib.ctz 64 (N 0), by simp, K1.out.1, K1.out.2, HQ.out⟩
    · have l := run_ix1
      by_cases h0 : N 1 = 0
      · have e1 := eq_of h0
        have H0 : Hid (N 1 = 0) := h0
        clear h0
        go_wp2_with fail
        go_roundg (3)
        case measure => go_light; omega
        case rel =>
          go_light
          exact ⟨2, rfl, by omega, rfl, (HX.out H0.out).out, rfl⟩
      · have e1 := ne_of h0
        have k1 := HY.out (by omega) h0
        have hc : Lib.ctz 64 (N 1) ≤ 320 := by have : 64 * 1 + Lib.ctz 64 (N 1) ≤ 320 := k1.1; omega
        have K1 : Hid _ := k1
        clear k1 h0
        go_wp2_with fail
        refine (tz64_any (N 1) _ (HN.out 1) (HQ.out.tab HT.out)).mono ?_
        rintro e w1 ⟨rfl, rfl⟩
        go_wp2_with fail
        go_ret
        exact ⟨64 * 1 + Lib.ctz 64 (N 1), by simp, K1.out.1, K1.out.2, HQ.out⟩
    · have l := run_ix2
      by_cases h0 : N 2 = 0
      · have e1 := eq_of h0
        have H0 : Hid (N 2 = 0) := h0
        clear h0
        go_wp2_with fail
        go_roundg (2)
        case measure => go_light; omega
        case rel =>
          go_light
          exact ⟨3, rfl, by omega, rfl, (HX.out H0.out).out, rfl⟩
      · have e1 := ne_of h0
        have k1 := HY.out (by omega) h0
        have hc : Lib.ctz 64 (N 2) ≤ 320 := by have : 64 * 2 + Lib.ctz 64 (N 2) ≤ 320 := k1.1; omega
        have K1 : Hid _ := k1
        clear k1 h0
        go_wp2_with fail
        refine (tz64_any (N 2) _ (HN.out 2) (HQ.out.tab HT.out)).mono ?_
        rintro e w1 ⟨rfl, rfl⟩
        go_wp2_with fail
        go_ret
        exact ⟨64 * 2 + Lib.ctz 64 (N 2), by simp, K1.out.1, K1.out.2, HQ.out⟩
    · have l := run_ix3
      by_cases h0 : N 3 = 0
      · have e1 := eq_of h0
        have H0 : Hid (N 3 = 0) := h0
        clear h0
        go_wp2_with fail
        go_roundg (1)
        case measure => go_light; omega
        case rel =>
          go_light
          exact ⟨4, rfl, by omega, rfl, (HX.out H0.out).out, rfl⟩
      · have e1 := ne_of h0
        have k1 := HY.out (by omega) h0
        have hc : Lib.ctz 64 (N 3) ≤ 320 := by have : 64 * 3 + Lib.ctz 64 (N 3) ≤ 320 := k1.1; omega
        have K1 : Hid _ := k1
        clear k1 h0
        go_wp2_with fail
        refine (tz64_any (N 3) _ (HN.out 3) (HQ.out.tab HT.out)).mono ?_
        rintro e w1 ⟨rfl, rfl⟩
        go_wp2_with fail
        go_ret
        exact ⟨64 * 3 + Lib.ctz 64 (N 3), by simp, K1.out.1, K1.out.2, HQ.out⟩
    · have l := run_ix4
      by_cases h0 : N 4 = 0
      · have e1 := eq_of h0
        have H0 : Hid (N 4 = 0) := h0
        clear h0
        go_wp2_with fail
        go_roundg (0)
        case measure => go_light; omega
        case rel =>
          go_light
          exact ⟨5, rfl, by omega, rfl, (HX.out H0.out).out, rfl⟩
      · have e1 := ne_of h0
        have k1 := HY.out (by omega) h0
        have hc : Lib.ctz 64 (N 4) ≤ 320 := by have : 64 * 4 + Lib.ctz 64 (N 4) ≤ 320 := k1.1; omega
        have K1 : Hid _ := k1
        clear k1 h0
        go_wp2_with fail
        refine (tz64_any (N 4) _ (HN.out 4) (HQ.out.tab HT.out)).mono ?_
        rintro e w1 ⟨rfl, rfl⟩
        go_wp2_with fail
        go_ret
        exact ⟨64 * 4 + Lib.ctz 64 (N 4), by simp, K1.out.1, K1.out.2, HQ.out⟩
    · obtain rfl : i = 0 := by omega
      go_wp2_with fail
      go_ret
      exact ⟨320, rfl, by omega, HZ.out trivial, HQ.out⟩
/-- 64 bits of a number from a bit on. -/
theorem from_words {N : Nat → Nat} (hN : ∀ i, N i < m64) {i sh : Nat} (hi : i + 1 < 5) (hs : sh < 64) : valW N 5 / 2 ^ (64 * i + sh) % m64 = N i / 2 ^ sh + N (i + 1) * 2 ^ (64 - sh) % m64 := by
  obtain ⟨K, hK⟩ := valW_split N (i + 2) (3 - i)
  rw [show i + 2 + (3 - i) = 5 by omega, show i + 2 = i + 1 + 1 from rfl, valW_succ N (i + 1), valW_succ N i] at hK
  have hl := valW_lt hN i
  have hp : 0 < m64 ^ i := Nat.pow_pos (by decide)
  have e1 : valW N 5 / m64 ^ i = N i + (N (i + 1) + K * m64) * m64 := by
    have : valW N 5 = valW N i + (N i + (N (i + 1) + K * m64) * m64) * m64 ^ i := by
      rw [hK, Nat.pow_succ, Nat.pow_succ]
      grind
    rw [this, Nat.add_mul_div_right _ _ hp, Nat.div_eq_of_lt hl, Nat.zero_add]
  have e2 : m64 = 2 ^ (64 - sh) * 2 ^ sh := by rw [← two64, ← Nat.pow_add]; congr 1; omega
  have e3 : valW N 5 / 2 ^ (64 * i + sh) = N i / 2 ^ sh + (N (i + 1) + K * m64) * 2 ^ (64 - sh) := by
    rw [Nat.pow_add, ← m64_pow, ← Nat.div_div_eq_div_mul, e1]
    have : (N (i + 1) + K * m64) * m64 = (N (i + 1) + K * m64) * 2 ^ (64 - sh) * 2 ^ sh := by
      rw [Nat.mul_assoc _ (2 ^ (64 - sh)), ← e2]
    rw [this, Nat.add_mul_div_right _ _ (Nat.two_pow_pos sh)]
  have h4 : N i / 2 ^ sh < 2 ^ (64 - sh) := by
    rw [Nat.div_lt_iff_lt_mul (Nat.two_pow_pos sh), ← e2]
    exact hN i
  have e5 : (N (i + 1) + K * m64) * 2 ^ (64 - sh) = N (i + 1) * 2 ^ (64 - sh) + K * 2 ^ (64 - sh) * m64 := by grind
  rw [e3, e5, ← Nat.add_assoc, Nat.add_mul_mod_self_right]
  -- both parts together lie below 2^64
  have h6 : 2 ^ (64 - sh) ∣ N (i + 1) * 2 ^ (64 - sh) % m64 := by
    rw [Nat.dvd_mod_iff (by rw [e2]; exact Nat.dvd_mul_right _ _)]
    exact Nat.dvd_mul_left _ _
  rw [Nat.add_mod, Nat.mod_eq_of_lt (a := N i / 2 ^ sh) (Nat.lt_of_le_of_lt (Nat.div_le_self _ _) (hN i))]
  refine Nat.mod_eq_of_lt ?_
  have h7 : N (i + 1) * 2 ^ (64 - sh) % m64 < m64 := Nat.mod_lt _ (by decide)
  obtain ⟨c, hc⟩ := h6
  rw [hc] at h7 ⊢
  rw [e2] at h7 ⊢
  have h8 : c < 2 ^ sh := Nat.lt_of_mul_lt_mul_left h7
  have h9 := Nat.mul_le_mul_left (2 ^ (64 - sh)) (show c + 1 ≤ 2 ^ sh from h8)
  rw [Nat.mul_add, Nat.mul_one] at h9
  omega
theorem from_top {N : Nat → Nat} (hN : ∀ i, N i < m64) {sh : Nat} (hs : sh < 64) : valW N 5 / 2 ^ (64 * 4 + sh) % m64 = N 4 / 2 ^ sh := by
  have hl := valW_lt hN 4
  have hp : 0 < m64 ^ 4 := Nat.pow_pos (by decide)
  rw [Nat.pow_add, ← m64_pow, ← Nat.div_div_eq_div_mul, valW_succ N 4, Nat.add_mul_div_right _ _ hp, Nat.div_eq_of_lt hl, Nat.zero_add]
  exact Nat.mod_eq_of_lt (Nat.lt_of_le_of_lt (Nat.div_le_self _ _) (hN 4))
theorem from_or {n m sh : Nat} (hn : n < m64) (hs : sh < 64) : bits .or .u64 ((n / 2 ^ sh : Nat) : Int) ((m * 2 ^ (64 - sh) % m64 : Nat) : Int) = ((n / 2 ^ sh + m * 2 ^ (64 - sh) % m64 : Nat) : Int) := by
  have e2 : m64 = 2 ^ (64 - sh) * 2 ^ sh := by rw [← two64, ← Nat.pow_add]; congr 1; omega
  have h4 : n / 2 ^ sh < 2 ^ (64 - sh) := by
    rw [Nat.div_lt_iff_lt_mul (Nat.two_pow_pos sh), ← e2]
    exact hn
  have e6 : m * 2 ^ (64 - sh) % m64 = 2 ^ (64 - sh) * (m % 2 ^ sh) := by
    rw [e2, Nat.mul_comm m, Nat.mul_mod_mul_left]
  have h7 : m * 2 ^ (64 - sh) % m64 < 18446744073709551616 := Nat.mod_lt _ (by decide)
  have h8 : n / 2 ^ sh < 18446744073709551616 := Nat.lt_of_le_of_lt (Nat.div_le_self _ _) hn
  have e : bits .or .u64 ((n / 2 ^ sh : Nat) : Int) ((m * 2 ^ (64 - sh) % m64 : Nat) : Int) = (((n / 2 ^ sh) ||| (m * 2 ^ (64 - sh) % m64) : Nat) : Int) := by
    generalize n / 2 ^ sh = x at *
    generalize m * 2 ^ (64 - sh) % m64 = y at *
    go_bits2
  rw [e, e6, Nat.or_comm, ← Nat.two_pow_add_eq_or_of_lt h4, Nat.add_comm]
set_option maxHeartbeats 4000000 in
set_option maxRecDepth 100000 in
theorem from_any (N : Nat → Nat) (hN : ∀ i, N i < m64) (b : Nat) (hb : b < 320) (w : World) : Calls Tryd.prog 91 #[numV N, .int .i64 (b : Int)] w fun e w' => e = .returned (.int .u64 ((valW N 5 / 2 ^ b % m64 : Nat) : Int)) ∧ Q w w' := by
  obtain ⟨i, hi⟩ : ∃ i, i = b / 64 := ⟨_, rfl⟩
  obtain ⟨sh, hs⟩ : ∃ sh, sh = b % 64 := ⟨_, rfl⟩
  have hs1 : sh < 64 := by omega
  have eb : b = 64 * i + sh := by omega
  have hi1 : i < 5 := by omega
  have q1 : ((b : Int)).tdiv 64 = (i : Int) := by rw [show ((b : Int)).tdiv 64 = ((b / 64 : Nat) : Int) from rfl, ← hi]
  have q2 : ((b : Int)).tmod 64 = (sh : Int) := by rw [show ((b : Int)).tmod 64 = ((b % 64 : Nat) : Int) from rfl, ← hs]
  have q3 : (b : Int) / 64 = (i : Int) := by omega
  have q4 : (b : Int) % 64 = (sh : Int) := by omega
  have HN : Hid (∀ i, N i < m64) := hN
  clear hi hs
  unfold numV
  by_cases h4 : i = 4
  · subst h4
    have HF : Hid (valW N 5 / 2 ^ b % m64 = N 4 / 2 ^ sh) := by
      show valW N 5 / 2 ^ b % m64 = N 4 / 2 ^ sh
      rw [eb]; exact from_top hN hs1
    have HE : Hid (b = 64 * 4 + sh) := eb
    clear hN eb hi1
    go_enter Tryd.func91, Tryd.ntmps91
    go_wp2_with fail
    go_ret
    exact ⟨by rw [HF.out]; simp, (Q.refl w).cells _ _⟩
  · have HF : Hid (valW N 5 / 2 ^ b % m64 = N i / 2 ^ sh + N (i + 1) * 2 ^ (64 - sh) % m64) := by
      show valW N 5 / 2 ^ b % m64 = _
      rw [eb]; exact from_words hN (by omega) hs1
    have HE : Hid (b = 64 * i + sh) := eb
    have c1 := box_words w N i (by omega)
    have c2 := box_words w N (i + 1) (by omega)
    have n4 : ((i : Int) + 1 == 5) = false := by rw [beq_eq_false_iff_ne]; omega
    have hi2 : (i : Int) + 1 < 5 := by omega
    have HO : Hid _ := from_or (m := N (i + 1)) (hN i) hs1
    clear hN eb
    go_enter Tryd.func91, Tryd.ntmps91
    go_wp2_with fail
    go_ret
    exact ⟨by rw [HF.out, ← HO.out]; simp [IntKind.wrap_u64, m64], (Q.refl w).cells _ _⟩
end Go.Proofs.YtmgpaheobhfioaaDoor
/- Numbers of five words, divided. -/
namespace Go.Proofs.YtmgpaheobhfioaaDoor
open Go.RowKit
set_option linter.unusedVariables false
set_option linter.unusedSimpArgs false

/-- What is left behind j steps of a division, from the highest word down; the words of the quotient. -/
def rdT (N : Nat → Nat) (d : Nat) : Nat → Nat
  | 0 => 0
  | j + 1 => (rdT N d j * 18446744073709551616 + N (4 - j)) % d
def dvW (N : Nat → Nat) (d i : Nat) : Nat := (rdT N d (4 - i) * 18446744073709551616 + N i) / d
def horV (N : Nat → Nat) : Nat → Nat
  | 0 => 0
  | j + 1 => horV N j * 18446744073709551616 + N (4 - j)
theorem rdT_lt (N : Nat → Nat) {d : Nat} (hd : 0 < d) : ∀ j, rdT N d j < d := by
  intro j
  cases j with
  | zero => exact hd
  | succ j => exact Nat.mod_lt _ hd
theorem dvW_lt {N : Nat → Nat} (hN : ∀ i, N i < m64) {d : Nat} (hd : 0 < d) (i : Nat) : dvW N d i < m64 := by
  unfold dvW
  rw [Nat.div_lt_iff_lt_mul hd]
  have h1 := rdT_lt N hd (4 - i)
  have h2 := hN i
  unfold m64 at *
  generalize rdT N d (4 - i) = r at *
  omega
theorem hor_step {H d E r n M : Nat} (h : H = d * E + r) : H * M + n = d * (E * M + (r * M + n) / d) + (r * M + n) % d := by
  have h1 := Nat.div_add_mod (r * M + n) d
  rw [h, Nat.mul_add, Nat.add_mul, Nat.mul_assoc]
  omega
theorem hor_div (N : Nat → Nat) (d : Nat) : ∀ j, j ≤ 5 → horV N j = d * horV (dvW N d) j + rdT N d j := by
  intro j
  induction j with
  | zero => intro _; rfl
  | succ j ih =>
    intro hj
    show horV N j * 18446744073709551616 + N (4 - j) = d * (horV (dvW N d) j * 18446744073709551616 + (rdT N d (4 - (4 - j)) * 18446744073709551616 + N (4 - j)) / d) + (rdT N d j * 18446744073709551616 + N (4 - j)) % d
    rw [show 4 - (4 - j) = j by omega]
    exact hor_step (ih (by omega))
theorem hor_alg (a0 a1 a2 a3 a4 M : Nat) : (((a4 * M + a3) * M + a2) * M + a1) * M + a0 = a0 * M ^ 0 + a1 * M ^ 1 + a2 * M ^ 2 + a3 * M ^ 3 + a4 * M ^ 4 := by grind
theorem hor_val (N : Nat → Nat) : horV N 5 = valW N 5 := by
  have e1 : horV N 5 = (((N 4 * m64 + N 3) * m64 + N 2) * m64 + N 1) * m64 + N 0 := by
    show ((((0 * m64 + N 4) * m64 + N 3) * m64 + N 2) * m64 + N 1) * m64 + N 0 = _
    rw [Nat.zero_mul, Nat.zero_add]
  have e2 : valW N 5 = N 0 * m64 ^ 0 + N 1 * m64 ^ 1 + N 2 * m64 ^ 2 + N 3 * m64 ^ 3 + N 4 * m64 ^ 4 := by
    rw [valW_succ N 4, valW_succ N 3, valW_succ N 2, valW_succ N 1, valW_succ N 0, valW_none, Nat.zero_add]
  rw [e1, e2, hor_alg]
theorem dv_words (N : Nat → Nat) {d : Nat} (hd : 0 < d) : valW (dvW N d) 5 = valW N 5 / d ∧ rdT N d 5 = valW N 5 % d := by
  have h := hor_div N d 5 (by omega)
  rw [hor_val, hor_val] at h
  have hl := rdT_lt N hd 5
  have := (Nat.div_mod_unique hd).2 (show rdT N d 5 + d * valW (dvW N d) 5 = valW N 5 ∧ rdT N d 5 < d from ⟨by omega, hl⟩)
  exact ⟨this.1.symm, this.2.symm⟩
/-- The words of a box while they are divided: i are still to be. -/
structure DSt (w : World) (N : Nat → Nat) (d B i : Nat) (x : World) : Prop where
  q : Q w x
  c1 : ∀ j, j < 5 → x.cell? ⟨B, j, none⟩ = some (.int .u64 ((if j < i then N j else dvW N d j : Nat) : Int))
  z1 : ∀ j, x.frozen? ⟨B, j, none⟩ = false
theorem DSt.step {w x : World} {N : Nat → Nat} {d B i : Nat} (h : DSt w N d B (i + 1) x) (hw : w.heap.size ≤ B) (hi : i < 5) {x' : World} (q : Q x x') : DSt w N d B i (x'.setCell ⟨B, i, none⟩ (.int .u64 (dvW N d i : Nat))) := by
  have hc : ∀ j, j < 5 → x'.cell? ⟨B, j, none⟩ = some (.int .u64 ((if j < i + 1 then N j else dvW N d j : Nat) : Int)) := fun j hj => q.cell (h.c1 j hj)
  refine ⟨(h.q.trans q).set hw _, fun j hj => ?_, fun j => ?_⟩
  · by_cases e : j = i
    · subst e
      have c := hc j hj
      rw [if_neg (Nat.lt_irrefl _)]
      simp [go_sem, c]
    · rw [World.cell?_setCell_other _ _ _ _ (by intro h; injection h; omega), hc j hj]
      by_cases g : j < i
      · rw [if_pos g, if_pos (by omega)]
      · rw [if_neg g, if_neg (by omega)]
  · rw [World.frozen?_setCell, q.2]; exact h.z1 j
theorem or_one {n : Nat} (h : n < 18446744073709551616) : bits .or .u64 (n : Int) 1 = ((2 * (n / 2) + 1 : Nat) : Int) := by
  have e : bits .or .u64 (n : Int) 1 = ((n ||| 1 : Nat) : Int) := by go_bits2
  rw [e]
  congr 1
  have h1 : n = 2 * (n / 2) + n % 2 := by omega
  rcases Nat.mod_two_eq_zero_or_one n with g | g
  · have := Nat.two_pow_add_eq_or_of_lt (i := 1) (b := 1) (by decide) (n / 2)
    rw [show 2 ^ 1 * (n / 2) = n by omega] at this
    omega
  · have h2 := Nat.two_pow_add_eq_or_of_lt (i := 1) (b := 1) (by decide) (n / 2)
    rw [show 2 ^ 1 * (n / 2) + 1 = n by omega] at h2
    have h3 : (2 ^ 1 * (n / 2) ||| 1) ||| 1 = 2 ^ 1 * (n / 2) ||| 1 := by rw [Nat.or_assoc, Nat.or_self]
    rw [← h2] at h3
    omega
/-- A binary64 of a whole number, times a power of two. -/
theorem lib_wd (t : Nat) (x : Int) (h0 : 0 < t) (h1 : t < 2 ^ 53) (x0 : -160 ≤ x) (x1 : x ≤ 300) (w : World) :
    Calls Tryd.prog 93 #[.float .f64 (floatOfInt .f64 (t : Int)), .int .i64 x] w fun e w' => e = .returned (.float .f64 (Ieee.double.nearest false t x)) ∧ w' = w := by
  have hne : t ≠ 0 := by omega
  have a0 := Nat.log2_self_le hne
  have a1 : t < 2 ^ (t.log2 + 1) := Nat.lt_log2_self
  have aL : t.log2 ≤ 52 := by
    have := (Nat.log2_lt hne).2 h1
    omega
  generalize t.log2 = L at *
  have e1 : floatOfInt .f64 (t : Int) = wd false (t * 2 ^ (52 - L)) ((L : Int) - 52) := by
    show Ieee.double.nearest (decide ((t : Int) < 0)) ((t : Int)).natAbs 0 = _
    rw [decide_eq_false (by omega), show ((t : Int)).natAbs = t from rfl]
    have := nearest_exact (neg := false) (k := 0) (p := 0) a0 a1 aL (by omega) (by omega)
    rw [Nat.pow_zero, Nat.mul_one] at this
    rw [this]
    congr 1
    omega
  have e2 : Ieee.double.nearest false t x = wd false (t * 2 ^ (52 - L)) ((L : Int) - 52 + x) := by
    have := nearest_exact (neg := false) (k := 0) (p := x) a0 a1 aL (by omega) (by omega)
    rw [Nat.pow_zero, Nat.mul_one] at this
    rw [this]
    congr 1
    omega
  have b1 : t * 2 ^ (52 - L) < 9007199254740992 := by
    have := Nat.mul_lt_mul_of_pos_right a1 (Nat.two_pow_pos (52 - L))
    rw [← Nat.pow_add, show L + 1 + (52 - L) = 53 by omega] at this
    exact this
  have b0 : 4503599627370496 ≤ t * 2 ^ (52 - L) := by
    have := Nat.mul_le_mul_right (2 ^ (52 - L)) a0
    rw [← Nat.pow_add, show L + (52 - L) = 52 by omega] at this
    exact this
  rw [e1, e2]
  have k := fun w => ldexp_any false (t * 2 ^ (52 - L)) ((L : Int) - 52) x b0 b1 (by omega) (by omega) (by omega) (by omega) w
  generalize wd false (t * 2 ^ (52 - L)) ((L : Int) - 52) = u1 at *
  generalize wd false (t * 2 ^ (52 - L)) ((L : Int) - 52 + x) = u2 at *
  clear e1 e2 b0 b1 a0 a1
  go_enter Tryd.func93, Tryd.ntmps93
  go_wp2_with fail
  refine (k _).mono ?_
  rintro e v ⟨rfl, rfl⟩
  go_wp2_with fail
  go_ret
  exact ⟨rfl, rfl⟩
/-- Units divided, rounded to odd. -/
def topV (V d : Nat) : Nat := stick (sqV V d 0) (blen (V / d) - 53 + 2)
def oddW (s : Bool) (V d : Nat) : Nat := Ieee.double.nearest s (topV V d) (((blen (V / d) - 53 : Nat) : Int) - 151)
set_option maxHeartbeats 4000000 in
set_option maxRecDepth 100000 in
theorem size_any (N : Nat → Nat) (hN : ∀ i, N i < m64) (d : Nat) (hd : 0 < d) (hd' : d < 4294967296) (hV : 0 < valW N 5) (w : World) (hT : Tab w) : Calls Tryd.prog 87 #[numV N, .int .u64 (d : Int)] w fun e w' => e = .returned (.float .f64 (oddW false (valW N 5) d)) ∧ Q w w' := by
  have HN : Hid (∀ i, N i < m64) := hN
  have HT : Hid (Tab w) := hT
  have HV : Hid (0 < valW N 5) := hV
  have HD : Hid (valW (dvW N d) 5 = valW N 5 / d ∧ rdT N d 5 = valW N 5 % d) := dv_words N hd
  have HL : Hid (∀ i, dvW N d i < m64) := dvW_lt hN hd
  have HR : Hid (∀ j, rdT N d j < d) := rdT_lt N hd
  clear hN hT hV
  unfold numV
  go_enter Tryd.func87, Tryd.ntmps87
  go_wp2_with fail
  have P0 : DSt w N d w.heap.size 5 (w.alloc (Obj.cells #[.int .u64 (N 0 : Nat), .int .u64 (N 1 : Nat), .int .u64 (N 2 : Nat), .int .u64 (N 3 : Nat), .int .u64 (N 4 : Nat)] 66)) :=
    ⟨(Q.refl w).cells _ _, fun j hj => by rw [if_pos hj]; exact box_words w N j hj, fun j => by simp [go_sem]⟩
  have HP0 : Hid _ := P0
  clear P0
  generalize w.alloc (Obj.cells #[.int .u64 (N 0 : Nat), .int .u64 (N 1 : Nat), .int .u64 (N 2 : Nat), .int .u64 (N 3 : Nat), .int .u64 (N 4 : Nat)] 66) = x0 at *
  go_loopg [5, 6] (5) (fun gh s5 s6 wr => ∃ (i r : Nat) (z : Int), s5 = .int .u64 (r : Int) ∧ Hid (r = rdT N d (5 - i)) ∧ s6 = .int .i64 z ∧ z = (i : Int) - 1 ∧ i ≤ 5 ∧ gh = 0 + i ∧ Hid (DSt w N d w.heap.size i wr))
  case atStart => exact ⟨5, 0, 4, rfl, (rfl : (0 : Nat) = rdT N d 0), rfl, rfl, by omega, rfl, HP0.out⟩
  case round =>
    obtain ⟨i, r, z, rfl, HRr, rfl, hz, hi, rfl, HP⟩ := hrel
    rcases i with _ | k
    · obtain rfl : z = -1 := by omega
      clear hz
      obtain ⟨a0, a1, a2, a3, a4⟩ : wr.cell? ⟨w.heap.size, 0, none⟩ = some (.int .u64 (dvW N d 0 : Nat)) ∧ wr.cell? ⟨w.heap.size, 1, none⟩ = some (.int .u64 (dvW N d 1 : Nat)) ∧ wr.cell? ⟨w.heap.size, 2, none⟩ = some (.int .u64 (dvW N d 2 : Nat)) ∧ wr.cell? ⟨w.heap.size, 3, none⟩ = some (.int .u64 (dvW N d 3 : Nat)) ∧ wr.cell? ⟨w.heap.size, 4, none⟩ = some (.int .u64 (dvW N d 4 : Nat)) :=
        ⟨HP.out.c1 0 (by decide), HP.out.c1 1 (by decide), HP.out.c1 2 (by decide), HP.out.c1 3 (by decide), HP.out.c1 4 (by decide)⟩
      have HQ0 : Hid (Q w wr) := HP.out.q
      have HRd : Hid (r = valW N 5 % d) := by
        show r = valW N 5 % d
        rw [HRr.out]; exact HD.out.2
      have HDq : Hid (valW (dvW N d) 5 = valW N 5 / d) := HD.out.1
      clear HP HRr HD HP0
      generalize dvW N d = D at *
      go_wp2_with fail
      refine (length_any D HL.out _).mono ?_
      rintro e w1 ⟨rfl, q1⟩
      rw [HDq.out]
      obtain ⟨bl, hbl⟩ : ∃ bl, blen (valW N 5 / d) = bl := ⟨_, rfl⟩
      have HBL : Hid (blen (valW N 5 / d) = bl) := hbl
      rw [hbl]
      clear hbl
      have a0' := q1.cell a0
      have a1' := q1.cell a1
      have a2' := q1.cell a2
      have a3' := q1.cell a3
      have a4' := q1.cell a4
      have HQ1 : Hid (Q w w1) := HQ0.out.trans q1
      clear a0 a1 a2 a3 a4 q1
      have hbl : bl ≤ 320 := by
        have h1 := valW_lt HN.out 5
        rw [m64_pow] at h1
        have h2 := blen_le (Nat.lt_of_le_of_lt (Nat.div_le_self _ d) h1)
        rw [HBL.out] at h2
        omega
      obtain ⟨b, hb⟩ : ∃ b, b = bl - 53 := ⟨_, rfl⟩
      have em : max 0 (wrap64 ((bl : Int) - 53)) = (b : Int) := by unfold wrap64; omega
      have HB : Hid (b = blen (valW N 5 / d) - 53) := by
        show b = _
        rw [HBL.out]; exact hb
      have hb2 : b < 320 := by omega
      have eb : wrap64 ((b : Int) + -151) = (b : Int) - 151 := by unfold wrap64; omega
      have HTs : Hid (topV (valW N 5) d = if valW N 5 % d = 0 ∧ valW N 5 / d % 2 ^ b = 0 then valW N 5 / d / 2 ^ b else 2 * (valW N 5 / d / 2 ^ b / 2) + 1) := by
        show topV (valW N 5) d = _
        unfold topV
        rw [← HB.out]
        exact top_stick _ _ _
      have HTl : Hid (topV (valW N 5) d < 2 ^ 53) := top_lt rfl
      have HTp : Hid (0 < topV (valW N 5) d) := top_pos HV.out hd rfl
      have HW : Hid (oddW false (valW N 5) d = Ieee.double.nearest false (topV (valW N 5) d) ((b : Int) + -151)) := by
        show oddW false (valW N 5) d = _
        unfold oddW
        rw [← HB.out, Int.sub_eq_add_neg]
      have hq0 : valW N 5 / d / 2 ^ b < 2 ^ 53 := by
        rw [Nat.div_lt_iff_lt_mul (Nat.two_pow_pos b), ← Nat.pow_add]
        refine Nat.lt_of_lt_of_le (blen_lt _) (Nat.pow_le_pow_right (by decide) ?_)
        rw [HBL.out]; omega
      have HT0 : Hid (valW N 5 / d / 2 ^ b % m64 = valW N 5 / d / 2 ^ b) := Nat.mod_eq_of_lt (Nat.lt_trans hq0 (by decide))
      obtain ⟨T, hT⟩ : ∃ T, valW N 5 / d / 2 ^ b = T := ⟨_, rfl⟩
      rw [hT] at hq0
      have hT64 : T < 18446744073709551616 := Nat.lt_trans hq0 (by decide)
      have HTT : Hid (valW N 5 / d / 2 ^ b = T) := hT
      obtain ⟨T2, hT2⟩ : ∃ T2, 2 * (T / 2) + 1 = T2 := ⟨_, rfl⟩
      have ho := or_one hT64
      rw [hT2] at ho
      have HT2 : Hid (2 * (T / 2) + 1 = T2) := hT2
      clear hT2
      clear hT hb HBL hbl hq0 hT64
      go_wp2_with fail
      refine (from_any D HL.out b hb2 _).mono ?_
      rintro e w2 ⟨rfl, q2⟩
      rw [HDq.out, HT0.out, HTT.out]
      have b0 := q2.cell a0'
      have b1 := q2.cell a1'
      have b2 := q2.cell a2'
      have b3 := q2.cell a3'
      have b4 := q2.cell a4'
      have HQ2 : Hid (Q w w2) := HQ1.out.trans q2
      clear a0' a1' a2' a3' a4' q2 em
      by_cases hr : r = 0
      · have er := eq_of hr
        have Hr : Hid (r = 0) := hr
        clear hr
        go_wp2_with fail
        refine (trailing_any D HL.out _ (HQ2.out.tab HT.out)).mono ?_
        rintro e w3 ⟨t, rfl, ht, hts, q3⟩
        have hts := hts b (by omega)
        rw [HDq.out] at hts
        have HQ3 : Hid (Q w w3) := HQ2.out.trans q3
        by_cases hc : t < b
        · have et : (t : Int) < b := by omega
          have HX : Hid (topV (valW N 5) d = T2) := by
            show topV (valW N 5) d = _
            rw [HTs.out, if_neg (fun h => (hts.1 hc) h.2), HTT.out, HT2.out]
          clear hts hc q3
          go_wp2_with fail
          rw [← HX.out]
          refine (lib_wd _ _ HTp.out HTl.out (by omega) (by omega) _).mono ?_
          rintro e w4 ⟨rfl, rfl⟩
          go_wp2_with fail
          go_ret
          exact ⟨by rw [HW.out]; rfl, HQ3.out⟩
        · have et : ¬ (t : Int) < b := by omega
          have HX : Hid (topV (valW N 5) d = T) := by
            show topV (valW N 5) d = _
            rw [HTs.out, if_pos ⟨by rw [← HRd.out, Hr.out], by
              rcases Nat.eq_zero_or_pos (valW N 5 / d % 2 ^ b) with g | g
              · exact g
              · exact absurd (hts.2 (by omega)) hc⟩, HTT.out]
          clear hts hc q3
          go_wp2_with fail
          rw [← HX.out]
          refine (lib_wd _ _ HTp.out HTl.out (by omega) (by omega) _).mono ?_
          rintro e w4 ⟨rfl, rfl⟩
          go_wp2_with fail
          go_ret
          exact ⟨by rw [HW.out]; rfl, HQ3.out⟩
      · have er := ne_of hr
        have HX : Hid (topV (valW N 5) d = T2) := by
          show topV (valW N 5) d = _
          rw [HTs.out, if_neg (fun h => hr (by rw [HRd.out]; exact h.1)), HTT.out, HT2.out]
        clear hr
        go_wp2_with fail
        rw [← HX.out]
        refine (lib_wd _ _ HTp.out HTl.out (by omega) (by omega) _).mono ?_
        rintro e w4 ⟨rfl, rfl⟩
        go_wp2_with fail
        go_ret
        exact ⟨by rw [HW.out]; rfl, HQ2.out⟩
    · obtain rfl : z = (k : Int) := by omega
      clear hz
      have c := HP.out.c1 k (by omega)
      rw [if_pos (by omega)] at c
      have hk : (k : Int) < 5 := by omega
      have hr : r < d := by rw [HRr.out]; exact HR.out _
      have ek : 5 - (k + 1) = 4 - k := by omega
      have HA : Hid ((r * 18446744073709551616 + N k) / d = dvW N d k) := by
        show (r * 18446744073709551616 + N k) / d = dvW N d k
        rw [HRr.out, ek]; rfl
      have HB : Hid ((r * 18446744073709551616 + N k) % d = rdT N d (5 - k)) := by
        show (r * 18446744073709551616 + N k) % d = rdT N d (5 - k)
        rw [HRr.out, ek, show 5 - k = (4 - k) + 1 by omega]
        show _ = (rdT N d (4 - k) * 18446744073709551616 + N (4 - (4 - k))) % d
        rw [show 4 - (4 - k) = k by omega]
      clear ek
      go_wp2_with fail
      refine (div64_any r (N k) d _ (HN.out k) hd' hr).mono ?_
      rintro e w1 ⟨rfl, q1⟩
      have c' := q1.cell c
      have z' : w1.frozen? ⟨w.heap.size, k, none⟩ = false := by rw [q1.2]; exact HP.out.z1 k
      have HQ1 : Hid (Q _ w1) := q1
      clear q1 c
      rw [HA.out]
      generalize hr' : (r * 18446744073709551616 + N k) % d = r' at *
      have HS : Hid _ := HP.out.step (Nat.le_refl _) (by omega) HQ1.out
      go_wp2_with fail
      go_roundg (k)
      case measure => go_light; omega
      case rel =>
        go_light
        exact ⟨k, r', _, rfl, HB.out, rfl, by omega, by omega, (Nat.zero_add k).symm, HS.out⟩
end Go.Proofs.YtmgpaheobhfioaaDoor
/- What operations tell, as a list of properties that last. -/
namespace Go.Proofs.YtmgpaheobhfioaaDoor
open Go.RowKit
set_option linter.unusedVariables false
set_option linter.unusedSimpArgs false

structure Spec where
  p : Value → World → Prop
  st : ∀ {v : Value} {x x' : World}, p v x → Q x x' → p v x'
def spV (u : Value) : Spec := ⟨fun v _ => v = u, fun h _ => h⟩
def specAt (l : List Spec) (i : Nat) (v : Value) (x : World) : Prop := match l[i]? with
  | some s => s.p v x
  | none => False
theorem specAt.next {l : List Spec} (i : Nat) (v : Value) (x x' : World) (h : specAt l i v x) (q : Q x x') : specAt l i v x' := by
  unfold specAt at h ⊢
  cases g : l[i]? with
  | none => rw [g] at h; exact h
  | some s => rw [g] at h; exact s.st h q
section
variable {P : Program} {ρ : Operand → Value} {x : World} {d : Option Tmp} {ty : TypeId} {ps : String} {af : Array Edge} {g : Option (Nat × Bool)}
end
end Go.Proofs.YtmgpaheobhfioaaDoor
