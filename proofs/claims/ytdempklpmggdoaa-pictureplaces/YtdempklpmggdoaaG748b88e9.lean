/- What the reference's Bits, Compare and Times return of whole numbers in memory. -/
import Derived.Test.YtdempklpmggdoaaG7c1aeb7f
import Derived.RegionTactic
import Derived.ChangeAlike
namespace Go.Proofs.Ytdempklpmggdoaa
open Go.RowKit

/-- How many bits a number has. -/
def blen (n : Nat) : Nat := if n = 0 then 0 else n.log2 + 1
theorem blen_half {n : Nat} (h : 0 < n) : blen (n / 2) + 1 = blen n := by
  unfold blen
  rw [if_neg (by omega : ¬ n = 0)]
  by_cases h1 : n = 1
  · subst h1; decide
  · rw [if_neg (by omega : ¬ n / 2 = 0)]
    rw [Nat.log2_def n, if_pos (by omega)]
theorem blen_lt (n : Nat) : n < 2 ^ blen n := by
  unfold blen
  by_cases h : n = 0
  · rw [if_pos h, h]; decide
  · rw [if_neg h]; exact Nat.lt_log2_self
theorem blen_le {n k : Nat} (h : n < 2 ^ k) : blen n ≤ k := by
  unfold blen
  by_cases h0 : n = 0
  · rw [if_pos h0]; omega
  · rw [if_neg h0]
    exact (Nat.log2_lt h0).2 h
theorem blen_shift (n k : Nat) (h : 2 ^ k ≤ n) : blen n = k + blen (n / 2 ^ k) := by
  have hp := Nat.two_pow_pos k
  have h1 : n / 2 ^ k ≠ 0 := by
    have := (Nat.le_div_iff_mul_le hp).2 (show 1 * 2 ^ k ≤ n by omega)
    omega
  unfold blen
  rw [if_neg (by omega), if_neg h1]
  have : n.log2 = k + (n / 2 ^ k).log2 := by
    refine (Nat.log2_eq_iff (by omega)).2 ⟨?_, ?_⟩
    · have := Nat.log2_self_le h1
      rw [Nat.le_div_iff_mul_le hp, ← Nat.pow_add, Nat.add_comm] at this
      exact this
    · have : n / 2 ^ k < 2 ^ ((n / 2 ^ k).log2 + 1) := Nat.lt_log2_self
      rw [Nat.div_lt_iff_lt_mul hp, ← Nat.pow_add] at this
      rw [show k + (n / 2 ^ k).log2 + 1 = (n / 2 ^ k).log2 + 1 + k by omega]
      exact this
  omega

/-- -1, 0, 1. -/
def cmpV (a b : Nat) : Int := if a < b then -1 else if a = b then 0 else 1

theorem cmp_step {a b j : Nat} (h : a / 4294967296 ^ (j + 1) = b / 4294967296 ^ (j + 1)) :
    (dig a j = dig b j → a / 4294967296 ^ j = b / 4294967296 ^ j) ∧ (dig a j < dig b j → a < b) ∧ (dig b j < dig a j → b < a) := by
  rw [quo_succ, quo_succ] at h
  unfold dig
  refine ⟨fun e => by omega, fun e => ?_, fun e => ?_⟩
  · rcases Nat.lt_or_ge a b with g | g
    · exact g
    · have := Nat.div_le_div_right (c := 4294967296 ^ j) g
      omega
  · rcases Nat.lt_or_ge b a with g | g
    · exact g
    · have := Nat.div_le_div_right (c := 4294967296 ^ j) g
      omega

theorem len_lt {w : World} {p q : Option Addr} {ba bb La Lb a b : Nat} (ha : NatIs w p ba La a) (hb : NatIs w q bb Lb b) (h : La < Lb) : a < b := by
  have h1 := ha.hi
  have h2 := hb.lo (by omega)
  have h3 : 4294967296 ^ La ≤ 4294967296 ^ (Lb - 1) := Nat.pow_le_pow_right (by decide) (by omega)
  omega

/-- One digit of a product. -/
theorem mul_dig {a m k c : Nat} (h : a * m / 4294967296 ^ k = a / 4294967296 ^ k * m + c) :
    (dig a k * m + c) % 4294967296 = dig (a * m) k ∧ a * m / 4294967296 ^ (k + 1) = a / 4294967296 ^ (k + 1) * m + (dig a k * m + c) / 4294967296 := by
  rw [quo_succ, quo_succ]
  unfold dig
  rw [h]
  generalize a / 4294967296 ^ k = x
  have e : x * m = 4294967296 * (x / 4294967296 * m) + x % 4294967296 * m := by
    rw [← Nat.mul_assoc, ← Nat.add_mul, Nat.div_add_mod]
  generalize x / 4294967296 * m = u at *
  generalize x % 4294967296 * m = v at *
  omega
theorem mul_carry {x m c : Nat} (hx : x < 4294967296) (hm : m < 4294967296) (hc : c < 4294967296) : x * m ≤ 18446744065119617025 ∧ (x * m + c) / 4294967296 < 4294967296 := by
  have := Nat.mul_le_mul (show x ≤ 4294967295 by omega) (show m ≤ 4294967295 by omega)
  omega
theorem part_last {w wr : World} {L v : Nat} (h : Part w wr (L + 1) v L) {x : Int} (e : x = dig v L) : Part w (wr.setCell ⟨w.heap.size, L, none⟩ (.int .u32 x)) (L + 1) v (L + 1) := part_step' h e

end Go.Proofs.Ytdempklpmggdoaa
/- What the reference's Minus, NatOf, Low and Bit return of whole numbers in memory. -/
namespace Go.Proofs.Ytdempklpmggdoaa
open Go.RowKit

theorem minus_rel {w wr : World} {M d b k c : Nat} (X : Int) (c1 : Nat) (hX : X = dig d k) (hP : Part w wr M d k)
    (hQ : (d + b) / 4294967296 ^ (k + 1) = d / 4294967296 ^ (k + 1) + b / 4294967296 ^ (k + 1) + (c + dig d k + dig b k) / 4294967296)
    (h1 : c1 = (c + dig d k + dig b k) / 4294967296) (hk : k < M) (hc : c1 ≤ 1) :
    ∃ k' c' : Nat, k' ≤ M ∧ M - (k + 1) = M - k' ∧ Value.int .u64 c1 = .int .u64 c' ∧ Value.int .i64 ((k : Int) + 1) = .int .i64 k' ∧
      Part w (wr.setCell { block := w.heap.size, off := k } (.int .u32 X)) M d k' ∧ (d + b) / 4294967296 ^ k' = d / 4294967296 ^ k' + b / 4294967296 ^ k' + c' ∧ c' ≤ 1 :=
  ⟨k + 1, c1, by omega, rfl, rfl, by simp, part_step' hP hX, by rw [h1]; exact hQ, hc⟩

/-- How many digits a number of 64 bits has. -/
def len64 (n : Nat) : Nat := if n = 0 then 0 else if n < 4294967296 then 1 else 2
theorem len64_unique {w : World} {p : Option Addr} {b L n : Nat} (h : NatIs w p b L n) (hn : n < 18446744073709551616) : L = len64 n := by
  have h2 := h.len_le (k := 2) (by omega)
  unfold len64
  by_cases h0 : n = 0
  · rw [if_pos h0]; exact h.pos.1 h0
  · rw [if_neg h0]
    have hL : L ≠ 0 := fun e => h0 (h.pos.2 e)
    by_cases h1 : n < 4294967296
    · rw [if_pos h1]
      have := h.len_le (k := 1) (by omega)
      omega
    · rw [if_neg h1]
      rcases (by omega : L = 1 ∨ L = 2) with e | e
      · subst e
        have := h.hi
        omega
      · exact e
/-- Two digits that lie somewhere. -/
theorem natAt_two {w : World} {b n C : Nat} (hn : n < 18446744073709551616) (h0 : w.cell? ⟨b, 0, none⟩ = some (.int .u32 ((n : Int) % 4294967296))) (h1 : w.cell? ⟨b, 1, none⟩ = some (.int .u32 ((n : Int) / 4294967296))) :
    NatAt w (.slice (some ⟨b, 0, none⟩) (len64 n) C) n := by
  refine ⟨_, b, _, C, rfl, fun _ => rfl, fun i hi => ?_, ?_, ?_, ?_⟩
  · have hi2 : i < 2 := Nat.lt_of_lt_of_le hi (by unfold len64; split <;> (try split) <;> omega)
    rcases (by omega : i = 0 ∨ i = 1) with rfl | rfl
    · rw [h0]; congr 2; unfold dig; rw [quo_zero]; rfl
    · rw [h1]; congr 2; unfold dig; rw [Nat.pow_one]; omega
  · unfold len64; split
    · omega
    · split <;> omega
  · unfold len64; split
    · omega
    · split
      · intro _; omega
      · intro _; omega
  · unfold len64; split
    · omega
    · split <;> omega

theorem or_hi (x y : Nat) (hx : x < 4294967296) (hy : y < 4294967296) : bits .or .u64 (x : Int) ((y : Int) * 4294967296) = ((x + y * 4294967296 : Nat) : Int) := by
  have e : (y : Int) * 4294967296 = ((y * 4294967296 : Nat) : Int) := by omega
  rw [e, u64_or_nat _ _ (by omega) (by omega), Nat.or_comm, Nat.mul_comm y, show (4294967296 : Nat) = 2 ^ 32 from rfl, ← Nat.two_pow_add_eq_or_of_lt (i := 32) hx y, Nat.add_comm]

def lowV (n : Nat) : Nat := n % 18446744073709551616
/-- The i-th bit; the lowest 64. -/
def bitV (n i : Nat) : Nat := n / 2 ^ i % 2
theorem bitV_le (n i : Nat) : bitV n i ≤ 1 := by unfold bitV; omega

theorem dig_bit (n q r : Nat) (hr : r < 32) : dig n q / 2 ^ r % 2 = bitV n (32 * q + r) := by
  unfold dig bitV
  rw [Nat.pow_add, ← base_pow, ← Nat.div_div_eq_div_mul]
  generalize n / 4294967296 ^ q = x
  have e : 4294967296 = 2 ^ r * (2 * 2 ^ (31 - r)) := by rw [show 2 * 2 ^ (31 - r) = 2 ^ (31 - r + 1) by rw [Nat.pow_succ]; omega, ← Nat.pow_add, show r + (31 - r + 1) = 32 by omega]
  rw [e, Nat.mod_mul, Nat.mul_comm (2 ^ r), Nat.add_mul_div_right _ _ (Nat.two_pow_pos r), Nat.div_eq_of_lt (Nat.mod_lt _ (Nat.two_pow_pos r)), Nat.zero_add]
  rw [Nat.mod_mod_of_dvd _ ⟨_, rfl⟩]

end Go.Proofs.Ytdempklpmggdoaa
/- What the reference's Up returns: a whole number in memory times a power of two. -/
namespace Go.Proofs.Ytdempklpmggdoaa
open Go.RowKit

/-- The row that Up fills: digits of v below k + q, c there, 0 above. -/
structure UpRow (w wr : World) (M v k q c : Nat) : Prop where
  kept : Q w wr
  row : wr.rowIs w.heap.size 27 M (fun j => .int .u32 (if j < k + q then (dig v j : Int) else if j = k + q then (c : Int) else 0))
theorem up_cell {w wr : World} {M v k q c : Nat} (h : UpRow w wr M v k q c) (hk : k + q < M) : wr.cell? ⟨w.heap.size, k + q, none⟩ = some (.int .u32 c) := by
  rw [h.row.cell hk, if_neg (by omega), if_pos rfl]
theorem up_cell2 {w wr : World} {M v k q c : Nat} (h : UpRow w wr M v k q c) (hk : k + q + 1 < M) (y : Value) :
    (wr.setCell ⟨w.heap.size, k + q, none⟩ y).cell? ⟨w.heap.size, k + q + 1, none⟩ = some (.int .u32 0) := by
  rw [(h.row.set (k + q) y).cell hk, if_neg (by omega), if_neg (by omega), if_neg (by omega)]
theorem up_step {w wr : World} {M v k q c : Nat} (h : UpRow w wr M v k q c) {Y : Int} (hY : Y = dig v (k + q)) (Z : Nat) :
    UpRow w ((wr.setCell ⟨w.heap.size, k + q, none⟩ (.int .u32 Y)).setCell ⟨w.heap.size, k + q + 1, none⟩ (.int .u32 Z)) M v (k + 1) q Z := by
  refine ⟨(h.kept.set (Nat.le_refl _) _).set (Nat.le_refl _) _, ((h.row.set _ _).set _ _).congr (fun j _ => ?_)⟩
  by_cases e1 : j = k + q + 1
  · subst e1; rw [if_pos rfl, if_neg (by omega), if_pos (by omega)]
  · rw [if_neg e1]
    by_cases e2 : j = k + q
    · subst e2; rw [if_pos rfl, if_pos (by omega), hY]
    · rw [if_neg e2]
      by_cases e3 : j < k + q
      · rw [if_pos e3, if_pos (by omega)]
      · rw [if_neg e3, if_neg e2, if_neg (by omega), if_neg (by omega)]

/-- a * 2^n behind q + k digits. -/
theorem up_quo (a q r k : Nat) : a * 2 ^ (32 * q + r) / 4294967296 ^ (k + q) = a * 2 ^ r / 4294967296 ^ k := by
  have hp : 0 < 4294967296 ^ q := Nat.pow_pos (by decide)
  rw [Nat.pow_add, ← base_pow, Nat.pow_add, Nat.mul_comm (4294967296 ^ q) (2 ^ r), ← Nat.mul_assoc, Nat.mul_div_mul_right _ _ hp]

theorem up_low (a q r j : Nat) (hj : j < q) : dig (a * 2 ^ (32 * q + r)) j = 0 := by
  obtain ⟨d, rfl⟩ : ∃ d, q = j + (d + 1) := ⟨q - j - 1, by omega⟩
  have hp : 0 < 4294967296 ^ j := Nat.pow_pos (by decide)
  unfold dig
  rw [Nat.pow_add 2, ← base_pow, Nat.pow_add 4294967296, Nat.pow_succ]
  rw [show a * (4294967296 ^ j * (4294967296 ^ d * 4294967296) * 2 ^ r) = a * 2 ^ r * 4294967296 ^ d * 4294967296 * 4294967296 ^ j by
    rw [Nat.mul_comm (4294967296 ^ j), Nat.mul_assoc, Nat.mul_comm (4294967296 ^ j), ← Nat.mul_assoc, ← Nat.mul_assoc, Nat.mul_comm _ (2 ^ r), ← Nat.mul_assoc, ← Nat.mul_assoc, Nat.mul_comm (2 ^ r) a]]
  rw [Nat.mul_div_cancel _ hp, Nat.mul_mod_left]

theorem up_dig {a k r c : Nat} (hr : r < 32) (hc : c < 2 ^ r) (h : a * 2 ^ r / 4294967296 ^ k = a / 4294967296 ^ k * 2 ^ r + c) :
    c ||| (dig a k * 2 ^ r % 4294967296) = a * 2 ^ r / 4294967296 ^ k % 4294967296 ∧
    a * 2 ^ r / 4294967296 ^ (k + 1) = a / 4294967296 ^ (k + 1) * 2 ^ r + dig a k * 2 ^ r / 4294967296 ∧ dig a k * 2 ^ r / 4294967296 < 2 ^ r := by
  rw [quo_succ, quo_succ, h]
  unfold dig
  generalize a / 4294967296 ^ k = x
  obtain ⟨s, hs⟩ : ∃ s, s = 32 - r := ⟨_, rfl⟩
  have hB : 4294967296 = 2 ^ s * 2 ^ r := by rw [← Nat.pow_add, show s + r = 32 by omega]
  have hp := Nat.two_pow_pos r
  have hps := Nat.two_pow_pos s
  -- x = 2^32 * u + y, y = 2^s * t + z
  obtain ⟨u, y, hx, hy⟩ : ∃ u y, x = 4294967296 * u + y ∧ y < 4294967296 := ⟨x / 4294967296, x % 4294967296, by omega, by omega⟩
  have hxm : x % 4294967296 = y := by omega
  have hxd : x / 4294967296 = u := by omega
  rw [hxm, hxd]
  obtain ⟨t, z, hy2, hz⟩ : ∃ t z, y = 2 ^ s * t + z ∧ z < 2 ^ s := ⟨y / 2 ^ s, y % 2 ^ s, (Nat.div_add_mod y (2 ^ s)).symm, Nat.mod_lt _ hps⟩
  have ht : t < 2 ^ r := by
    rcases Nat.lt_or_ge t (2 ^ r) with g | g
    · exact g
    · have := Nat.mul_le_mul_left (2 ^ s) g
      omega
  have hyr : y * 2 ^ r = 4294967296 * t + z * 2 ^ r := by
    rw [hy2, Nat.add_mul, hB, Nat.mul_right_comm]
  have hzr : z * 2 ^ r + 2 ^ r ≤ 4294967296 := by
    have := Nat.mul_le_mul_right (2 ^ r) (show z + 1 ≤ 2 ^ s from hz)
    rw [Nat.add_mul, Nat.one_mul, ← hB] at this
    exact this
  have hxr : x * 2 ^ r = 4294967296 * (u * 2 ^ r) + y * 2 ^ r := by rw [hx, Nat.add_mul, Nat.mul_assoc]
  have m1 : y * 2 ^ r % 4294967296 = z * 2 ^ r := by omega
  have d1 : y * 2 ^ r / 4294967296 = t := by omega
  rw [m1, d1, hxr, hyr]
  refine ⟨?_, ?_, ht⟩
  · have : c ||| z * 2 ^ r = z * 2 ^ r + c := by
      rw [Nat.or_comm, Nat.mul_comm z, ← Nat.two_pow_add_eq_or_of_lt hc z]
    rw [this]; omega
  · omega

theorem u64_wrap {x : Int} (h0 : 0 ≤ x) (h1 : x ≤ 18446744073709551615) : IntKind.u64.wrap x = x := by rw [IntKind.wrap_u64]; omega

end Go.Proofs.Ytdempklpmggdoaa
/- What the reference's Down returns of a whole number in memory: it shifted down, and whether something was left. -/
namespace Go.Proofs.Ytdempklpmggdoaa
open Go.RowKit

/-- Is there something in the k lowest bits? -/
def restB (a k : Nat) : Bool := !decide (a % 2 ^ k = 0)
theorem rest_step (a k : Nat) : a % 2 ^ (k + 1) = 2 ^ k * (a / 2 ^ k % 2) + a % 2 ^ k := by
  rw [Nat.pow_succ, Nat.mod_mul, Nat.add_comm]
theorem restB_t {a k : Nat} (h : restB a k = true) : restB a (k + 1) = true := by
  unfold restB at *
  have := rest_step a k
  simp at h ⊢
  omega
theorem restB_f {a k : Nat} (h : restB a k = false) : restB a (k + 1) = ((bitV a k : Int) == 1) := by
  unfold restB bitV at *
  have h1 := rest_step a k
  simp at h
  rw [h, Nat.add_zero] at h1
  have hp := Nat.two_pow_pos k
  rcases (by omega : a / 2 ^ k % 2 = 0 ∨ a / 2 ^ k % 2 = 1) with e | e
  · rw [h1, e]; simp
  · rw [h1, e]; simp
theorem restB_zero (a : Nat) : restB a 0 = false := by unfold restB; rw [Nat.pow_zero, Nat.mod_one]; rfl
theorem restB_all {a k n : Nat} (h : a < 2 ^ k) (hn : k ≤ n) : restB a k = restB a n := by
  unfold restB
  rw [Nat.mod_eq_of_lt h, Nat.mod_eq_of_lt (Nat.lt_of_lt_of_le h (Nat.pow_le_pow_right (by decide) hn))]

/-- One digit of what is shifted down. -/
theorem down_dig {a n q r k : Nat} (hn : n = 32 * q + r) (hr : r < 32) :
    (dig a (k + q) + dig a (k + q + 1) * 4294967296) / 2 ^ r % 4294967296 = dig (a / 2 ^ n) k := by
  unfold dig
  rw [quo_succ]
  have e : a / 2 ^ n / 4294967296 ^ k = a / 4294967296 ^ (k + q) / 2 ^ r := by
    rw [hn, Nat.pow_add 2, ← base_pow, Nat.div_div_eq_div_mul, Nat.div_div_eq_div_mul, Nat.pow_add]
    congr 1
    rw [Nat.mul_comm (4294967296 ^ k), Nat.mul_assoc, Nat.mul_comm (2 ^ r), ← Nat.mul_assoc]
  rw [e]
  generalize a / 4294967296 ^ (k + q) = x
  have e2 : x % 4294967296 + x / 4294967296 % 4294967296 * 4294967296 = x % 18446744073709551616 := by omega
  rw [e2]
  have e3 : 18446744073709551616 = 2 ^ r * (4294967296 * 2 ^ (32 - r)) := by
    rw [show (4294967296 : Nat) = 2 ^ 32 from rfl, ← Nat.pow_add, ← Nat.pow_add, show r + (32 + (32 - r)) = 64 by omega]
  rw [e3, Nat.mod_mul, Nat.mul_comm (2 ^ r), Nat.add_mul_div_right _ _ (Nat.two_pow_pos r), Nat.div_eq_of_lt (Nat.mod_lt _ (Nat.two_pow_pos r)), Nat.zero_add]
  rw [Nat.mod_mod_of_dvd _ ⟨_, rfl⟩]

end Go.Proofs.Ytdempklpmggdoaa
