/- What the reference's Round returns at binary32: the nearest word. -/
import Derived.Test.YtdempklpmggdoaaG19c9b2f7
import Derived.Deep.Cut
import Derived.Deep.CutRange
import Derived.Deep.CutBlock
import Derived.Test.YtdempklpmggdoaaG6d376ae7
import Derived.Test.YtdempklpmggdoaaG593b3e97
import Derived.Test.YtdempklpmggdoaaG7c1aeb7f
namespace Go.Proofs.Ytdempklpmggdoaa
open Go.RowKit

/-- The cells that Round reads. -/
structure RBox (F E : Int) (w wc : World) (neg : Bool) (more : Bool) : Prop where
  q : Q w wc
  f0 : wc.cell? ⟨w.heap.size, 0, none⟩ = some (.int .i64 F)
  f1 : wc.cell? ⟨w.heap.size, 1, none⟩ = some (.int .i64 E)
  k1 : wc.cell? ⟨w.heap.size + 1, 1, none⟩ = some (.bool neg)
  k4 : wc.cell? ⟨w.heap.size + 1, 4, none⟩ = some (.bool more)
theorem RBox.next {F E : Int} {w wc wd : World} {neg more : Bool} (h : RBox F E w wc neg more) (q : Q wc wd) : RBox F E w wd neg more :=
  ⟨h.q.trans q, q.cell h.f0, q.cell h.f1, q.cell h.k1, q.cell h.k4⟩
theorem Q.drewN {a b : World} (h : Q a b) (n : Nat) : Q a (b.drewN n) := by
  induction n with
  | zero => exact h
  | succ n ih => exact ih.drew

theorem to_wrapped {n : Nat} {e fr least : Int} (hbl : blen n ≤ 6000) (e0 : -5000 ≤ e) (e1 : e ≤ 5000) (f0 : 0 ≤ fr) (f1 : fr ≤ 100) :
    (if IntKind.i64.wrap (IntKind.i64.wrap (↑(blen n) + e) - IntKind.i64.wrap (fr + 1)) < least then least else IntKind.i64.wrap (IntKind.i64.wrap (↑(blen n) + e) - IntKind.i64.wrap (fr + 1))) = toV n e fr least := by
  have a1 : IntKind.i64.wrap ((blen n : Int) + e) = (blen n : Int) + e := by rw [IntKind.wrap_i64]; omega
  have a2 : IntKind.i64.wrap (fr + 1) = fr + 1 := by rw [IntKind.wrap_i64]; omega
  have a3 : IntKind.i64.wrap ((blen n : Int) + e - (fr + 1)) = (blen n : Int) + e - (fr + 1) := by rw [IntKind.wrap_i64]; omega
  rw [a1, a2, a3]
  unfold toV
  split <;> omega

theorem restB_mono {a k d : Nat} (h : k ≤ d) (hk : restB a k = true) : restB a d = true := by
  induction d with
  | zero => rw [show k = 0 by omega] at hk; exact hk
  | succ d ih =>
    by_cases e : k = d + 1
    · rw [← e]; exact hk
    · exact restB_t (ih (by omega))
theorem below_more {more : Bool} {n k d : Nat} (h : k < d) (hk : (more || restB n k) = true) : (more || restB n k) = (more || restB n d) := by
  rw [hk]
  cases more
  · rw [Bool.false_or] at hk ⊢; exact (restB_mono (by omega) hk).symm
  · rfl
theorem kept_odd {n d : Nat} {more : Bool} (h1 : bitV n d = 1) (h2 : more = false) (h3 : restB n d = false) (hb : bitV (n / 2 ^ (d + 1)) 0 ≤ 1) :
    n / 2 ^ (d + 1) + ((bitV (n / 2 ^ (d + 1)) 0 : Int) == 1).toNat = n / 2 ^ (d + 1) + if bitV n (d + 1 - 1) = 1 ∧ (more.toNat = 1 ∨ n % 2 ^ (d + 1 - 1) ≠ 0 ∨ bitV (n / 2 ^ (d + 1)) 0 = 1) then 1 else 0 := by
  rw [show d + 1 - 1 = d by omega, h2]
  have h4 : n % 2 ^ d = 0 := by unfold restB at h3; simpa using h3
  rcases (by omega : bitV (n / 2 ^ (d + 1)) 0 = 0 ∨ bitV (n / 2 ^ (d + 1)) 0 = 1) with g | g
  · rw [g, if_neg (by simp [h4])]; rfl
  · rw [g, if_pos ⟨h1, Or.inr (Or.inr rfl)⟩]; rfl
theorem kept_below {n d : Nat} {more : Bool} (h1 : bitV n d = 1) (h2 : (more || restB n d) = true) :
    n / 2 ^ (d + 1) + true.toNat = n / 2 ^ (d + 1) + if bitV n (d + 1 - 1) = 1 ∧ (more.toNat = 1 ∨ n % 2 ^ (d + 1 - 1) ≠ 0 ∨ bitV (n / 2 ^ (d + 1)) 0 = 1) then 1 else 0 := by
  rw [show d + 1 - 1 = d by omega, if_pos]
  · rfl
  · refine ⟨h1, ?_⟩
    cases more
    · right; left
      unfold restB at h2
      simpa using h2
    · left; rfl

end Go.Proofs.Ytdempklpmggdoaa
/- What the reference's Round, bits and num return of whatever number and sample. -/
namespace Go.Proofs.Ytdempklpmggdoaa
open Go.RowKit

/-- The word that a number is rounded to. -/
def roundR : RNum → Nat
  | ⟨none⟩ => 2143289344
  | ⟨some (.inl s)⟩ => Ieee.single.word s 2139095040
  | ⟨some (.inr (s, n, e, m))⟩ => Ieee.single.word s (rungOf Ieee.single (2 * n + m.toNat) (e - 1))
/-- Numbers that Round takes. -/
def fits : RNum → Prop
  | ⟨some (.inr (_, n, e, m))⟩ => blen n ≤ 6000 ∧ -5000 ≤ e ∧ e ≤ 5000 ∧ (m = true → n ≠ 0 ∧ e + 1 ≤ lastOf Ieee.single n e)
  | _ => True
theorem rung_le (f : Ieee.Format) (m : Nat) (p : Int) : rungOf f m p ≤ f.infRung := by
  unfold rungOf; split
  · exact Nat.zero_le _
  · exact Nat.min_le_right _ _
theorem roundR_lt (x : RNum) : roundR x < 4294967296 := by
  cases x using RNum.rec3 with
  | nan => decide
  | inf s => exact word_lt (by decide)
  | fin s n e m =>
    refine word_lt ?_
    have := rung_le Ieee.single (2 * n + m.toNat) (e - 1)
    rw [single_inf] at this
    omega

/-- A number stays where a struct of another kind is written. -/
theorem natAt_but {w w' : World} {v : Value} {n rb : Nat} {z : Int} (h : NatAt w v n) (h0 : w.cell? ⟨rb, 0, none⟩ = some (.int .i64 z)) (ha : ∀ a : Addr, a.block ≠ rb → w'.cell? a = w.cell? a) : NatAt w' v n := by
  obtain ⟨p, b, L, C, e, hn⟩ := h
  refine ⟨p, b, L, C, e, hn.ptr, fun i hi => ?_, hn.hi, hn.lo, hn.len⟩
  have hne : b ≠ rb := fun g => by
    subst g
    have := hn.cell 0 (by omega)
    rw [h0] at this
    cases this
  rw [ha ⟨b, i, none⟩ hne]; exact hn.cell i hi
theorem numAt_but {w w' : World} {v : Value} {x : RNum} {rb : Nat} {z : Int} (h : NumAt w v x) (h0 : w.cell? ⟨rb, 0, none⟩ = some (.int .i64 z)) (ha : ∀ a : Addr, a.block ≠ rb → w'.cell? a = w.cell? a) : NumAt w' v x := by
  cases x using RNum.rec3 with
  | nan => exact h
  | inf s => exact h
  | fin s n e m =>
    obtain ⟨nv, e, hn⟩ := h
    exact ⟨nv, e, natAt_but hn h0 ha⟩
theorem set_but (w : World) {rb i : Nat} {x : Value} {a : Addr} (h : a.block ≠ rb) : (w.setCell ⟨rb, i, none⟩ x).cell? a = w.cell? a :=
  World.cell?_setCell_other _ _ _ _ (fun e => h (by rw [← e]))
/-- What every number is made of. -/
theorem NumAt.made {w : World} {v : Value} {x : RNum} (h : NumAt w v x) : ∃ k s p L C e m, v = .agg #[.int .i64 k, .bool s, .slice p L C, .int .i64 e, .bool m] := by
  cases x using RNum.rec3 with
  | nan => obtain ⟨b, e, m, rfl⟩ := h; exact ⟨_, _, _, _, _, _, _, rfl⟩
  | inf s => obtain ⟨e, m, rfl⟩ := h; exact ⟨_, _, _, _, _, _, _, rfl⟩
  | fin s n e m =>
    obtain ⟨nv, rfl, p, b, L, C, rfl, hn⟩ := h
    exact ⟨_, _, _, _, _, _, _, rfl⟩
/-- A block of five cells as a new struct has them, none of them frozen. -/
structure Res5 (w : World) (rb : Nat) : Prop where
  c0 : w.cell? ⟨rb, 0, none⟩ = some (.int .i64 0)
  c1 : w.cell? ⟨rb, 1, none⟩ = some (.bool false)
  c2 : w.cell? ⟨rb, 2, none⟩ = some (.slice none 0 0)
  c3 : w.cell? ⟨rb, 3, none⟩ = some (.int .i64 0)
  c4 : w.cell? ⟨rb, 4, none⟩ = some (.bool false)
  z : ∀ i, w.frozen? ⟨rb, i, none⟩ = false
theorem Res5.next {w w' : World} {rb : Nat} (h : Res5 w rb) (q : Q w w') : Res5 w' rb :=
  ⟨q.cell h.c0, q.cell h.c1, q.cell h.c2, q.cell h.c3, q.cell h.c4, fun i => by rw [q.2]; exact h.z i⟩

end Go.Proofs.Ytdempklpmggdoaa
/- What the reference's PlusNum returns: the exact sum. -/
namespace Go.Proofs.Ytdempklpmggdoaa
open Go.RowKit

/-- The exact sum. -/
def plusFin (s t : Bool) (x y : Nat) (b : Int) : RNum :=
  if s = t then .fin s (x + y) b false
  else if x = y then .fin false 0 b false
  else if y < x then .fin s (x - y) b false
  else .fin t (y - x) b false
def plusR : RNum → RNum → RNum
  | ⟨none⟩, _ => .nan
  | ⟨some (.inl _)⟩, ⟨none⟩ => .nan
  | ⟨some (.inr _)⟩, ⟨none⟩ => .nan
  | ⟨some (.inl s)⟩, ⟨some (.inl t)⟩ => if s = t then .inf s else .nan
  | ⟨some (.inl s)⟩, ⟨some (.inr _)⟩ => .inf s
  | ⟨some (.inr _)⟩, ⟨some (.inl t)⟩ => .inf t
  | ⟨some (.inr (s, n, e, _))⟩, ⟨some (.inr (t, m, f, _))⟩ => plusFin s t (n * 2 ^ (e - min e f).toNat) (m * 2 ^ (f - min e f).toNat) (min e f)
/-- Numbers that PlusNum takes. -/
def small : RNum → Prop
  | ⟨some (.inr (_, n, e, _))⟩ => blen n ≤ 2000 ∧ -2000 ≤ e ∧ e ≤ 2000
  | _ => True

/-- The cells that PlusNum reads and writes behind the shifts. -/
structure PBox (w wc : World) (s t : Bool) : Prop where
  q : Q w wc
  a1 : wc.cell? ⟨w.heap.size, 1, none⟩ = some (.bool s)
  b1 : wc.cell? ⟨w.heap.size + 1, 1, none⟩ = some (.bool t)
  r : Res5 wc (w.heap.size + 1 + 1)
theorem PBox.next {w wc wd : World} {s t : Bool} (h : PBox w wc s t) (q : Q wc wd) : PBox w wd s t :=
  ⟨h.q.trans q, q.cell h.a1, q.cell h.b1, h.r.next q⟩

theorem far2 (w : World) : w.heap.size ≤ w.heap.size + 1 + 1 := by omega
theorem far3 (w : World) : (⟨w.heap.size, 1, none⟩ : Addr).block ≠ w.heap.size + 1 + 1 := by show w.heap.size ≠ _; omega
theorem far4 (w : World) : (⟨w.heap.size + 1, 1, none⟩ : Addr).block ≠ w.heap.size + 1 + 1 := by show w.heap.size + 1 ≠ _; omega
theorem add_cap {x y : Nat} (hx : x < 2 ^ 6000) (hy : y < 2 ^ 6000) : x + y < cap := by
  obtain ⟨j, hj⟩ : ∃ j, j = 6000 := ⟨_, rfl⟩
  rw [← hj] at hx hy
  exact lt_cap (k := j + 1) (by rw [Nat.pow_succ]; omega) (by omega)
theorem shifted_lt {k : Nat} (n d : Nat) (h : blen n + d ≤ k) : n * 2 ^ d < 2 ^ k := by
  have h1 : n * 2 ^ d < 2 ^ blen n * 2 ^ d := Nat.mul_lt_mul_of_pos_right (blen_lt n) (Nat.two_pow_pos d)
  rw [← Nat.pow_add] at h1
  exact Nat.lt_of_lt_of_le h1 (Nat.pow_le_pow_right (by decide) h)

end Go.Proofs.Ytdempklpmggdoaa
/- What the reference's Zero and TimesNum return: the exact product. -/
namespace Go.Proofs.Ytdempklpmggdoaa
open Go.RowKit

def zeroB : RNum → Bool
  | ⟨some (.inr (_, n, _, m))⟩ => decide (n = 0) && !m
  | _ => false
/-- The cells that TimesNum reads and writes. -/
structure TBox (w wc : World) (va vb : Value) (e f : Int) : Prop where
  q : Q w wc
  a2 : wc.cell? ⟨w.heap.size, 2, none⟩ = some va
  a3 : wc.cell? ⟨w.heap.size, 3, none⟩ = some (.int .i64 e)
  b2 : wc.cell? ⟨w.heap.size + 1, 2, none⟩ = some vb
  b3 : wc.cell? ⟨w.heap.size + 1, 3, none⟩ = some (.int .i64 f)
  r : Res5 wc (w.heap.size + 1 + 1)
theorem TBox.next {w wc wd : World} {va vb : Value} {e f : Int} (h : TBox w wc va vb e f) (q : Q wc wd) : TBox w wd va vb e f :=
  ⟨h.q.trans q, q.cell h.a2, q.cell h.a3, q.cell h.b2, q.cell h.b3, h.r.next q⟩

/-- A product, digit by digit. -/
theorem prod_step (n k i : Nat) : n * (k % 4294967296 ^ (i + 1)) = n * (k % 4294967296 ^ i) + n * dig k i * 2 ^ (32 * i) := by
  unfold dig
  rw [Nat.pow_succ, Nat.mod_mul, Nat.mul_add, ← base_pow, Nat.mul_comm (4294967296 ^ i), ← Nat.mul_assoc]

/-- The exact product. -/
def timesR : RNum → RNum → RNum
  | ⟨none⟩, _ => .nan
  | ⟨some (.inl _)⟩, ⟨none⟩ => .nan
  | ⟨some (.inr _)⟩, ⟨none⟩ => .nan
  | ⟨some (.inl s)⟩, ⟨some (.inl t)⟩ => .inf (s != t)
  | ⟨some (.inl s)⟩, ⟨some (.inr (t, n, e, m))⟩ => if zeroB (.fin t n e m) = true then .nan else .inf (s != t)
  | ⟨some (.inr (s, n, e, m))⟩, ⟨some (.inl t)⟩ => if zeroB (.fin s n e m) = true then .nan else .inf (s != t)
  | ⟨some (.inr (s, n, e, _))⟩, ⟨some (.inr (t, k, f, _))⟩ => .fin (s != t) (n * k) (e + f) false

end Go.Proofs.Ytdempklpmggdoaa
/- What the reference's DivNum returns of two numbers that are not 0: the quotient to 60 digits and more, and whether something is left. -/
namespace Go.Proofs.Ytdempklpmggdoaa
open Go.RowKit

/-- By how much the dividend is shifted. -/
def shV (n k : Nat) : Nat := 60 + (blen k - blen n)
theorem div_start {A d : Nat} (hd : 0 < d) (h : blen d ≤ blen A) : A < d * 2 ^ (blen A - blen d + 1) := by
  have h1 := blen_lt A
  have h2 : 2 ^ (blen d - 1) ≤ d := by
    unfold blen
    rw [if_neg (by omega)]
    exact Nat.log2_self_le (by omega)
  have h3 : 0 < blen d := by unfold blen; rw [if_neg (by omega)]; omega
  have h4 : 2 ^ (blen d - 1) * 2 ^ (blen A - blen d + 1) ≤ d * 2 ^ (blen A - blen d + 1) := Nat.mul_le_mul_right _ h2
  rw [← Nat.pow_add, show blen d - 1 + (blen A - blen d + 1) = blen A by omega] at h4
  omega
theorem div_step {rest d g : Nat} (h : rest < d * 2 ^ (g + 1)) (hge : d * 2 ^ g ≤ rest) : rest - d * 2 ^ g < d * 2 ^ g := by
  rw [Nat.pow_succ, ← Nat.mul_assoc] at h
  omega
theorem div_end {A d q rest : Nat} (h : rest + d * q = A) (hr : rest < d * 2 ^ 0) : q = A / d ∧ rest = A % d := by
  rw [Nat.pow_zero, Nat.mul_one] at hr
  have hd : 0 < d := by omega
  constructor
  · rw [← h, Nat.add_mul_div_left _ _ hd, Nat.div_eq_of_lt hr, Nat.zero_add]
  · rw [← h, Nat.add_mul_mod_self_left, Nat.mod_eq_of_lt hr]
theorem blen_mul_pow {n : Nat} (h : n ≠ 0) (k : Nat) : blen (n * 2 ^ k) = blen n + k := by
  unfold blen
  rw [if_neg h, if_neg (Nat.mul_ne_zero h (by have := Nat.two_pow_pos k; omega)), log2_mul_pow h]
  omega

end Go.Proofs.Ytdempklpmggdoaa
/- What the reference's DivNum returns where one of the two is no finite number, or is 0. -/
namespace Go.Proofs.Ytdempklpmggdoaa
open Go.RowKit

end Go.Proofs.Ytdempklpmggdoaa
/- What the reference's Add, Scale and Half return of whatever samples: the exact number, rounded. -/
namespace Go.Proofs.Ytdempklpmggdoaa
open Go.RowKit

/-- Numbers of middling size. -/
def mid : RNum → Prop
  | ⟨some (.inr (_, n, e, m))⟩ => blen n ≤ 1000 ∧ -1000 ≤ e ∧ e ≤ 1000 ∧ m = false
  | _ => True
theorem mid_small {x : RNum} (h : mid x) : small x := by
  cases x using RNum.rec3 with
  | fin s n e m => exact ⟨by have := h.1; omega, by have := h.2.1; omega, by have := h.2.2.1; omega⟩
  | nan => exact trivial
  | inf s => exact trivial
theorem numOf_cases (b : Nat) : numOf Ieee.single b = .nan ∨ (∃ s, numOf Ieee.single b = .inf s) ∨ ∃ s n e, numOf Ieee.single b = .fin s n e false ∧ n < 16777216 ∧ -149 ≤ e ∧ e ≤ 104 := by
  have hx : b / 8388608 % 256 < 256 := Nat.mod_lt _ (by decide)
  by_cases h1 : b / 8388608 % 256 = 255
  · by_cases h2 : b % 8388608 = 0
    · exact Or.inr (Or.inl ⟨_, numOf_inf h1 h2⟩)
    · exact Or.inl (numOf_nan h1 h2)
  · by_cases h3 : b / 8388608 % 256 = 0
    · exact Or.inr (Or.inr ⟨_, _, _, numOf_small h3, by omega, by omega, by omega⟩)
    · exact Or.inr (Or.inr ⟨_, _, _, numOf_norm h3 h1, by omega, by omega, by omega⟩)
theorem numOf_mid (b : Nat) : mid (numOf Ieee.single b) := by
  rcases numOf_cases b with h | ⟨s, h⟩ | ⟨s, n, e, h, hn, h0, h1⟩
  · rw [h]; exact trivial
  · rw [h]; exact trivial
  · rw [h]
    have : blen n ≤ 24 := blen_le hn
    exact ⟨by omega, by omega, by omega, rfl⟩
theorem blen_shifted {k : Nat} (n d : Nat) (h : blen n + d ≤ k) : blen (n * 2 ^ d) ≤ k := blen_le (shifted_lt n d h)
theorem plusFin_fits {s t : Bool} {x y : Nat} {b : Int} (hx : blen x ≤ 3000) (hy : blen y ≤ 3000) (b0 : -1000 ≤ b) (b1 : b ≤ 1000) : fits (plusFin s t x y b) := by
  have gx := blen_lt x
  have gy := blen_lt y
  obtain ⟨j, hj⟩ : ∃ j, j = 3000 := ⟨_, rfl⟩
  have px : 2 ^ blen x ≤ 2 ^ j := Nat.pow_le_pow_right (by decide) (by omega)
  have py : 2 ^ blen y ≤ 2 ^ j := Nat.pow_le_pow_right (by decide) (by omega)
  have key : ∀ z, z ≤ x + y → blen z ≤ 6000 := fun z hz => by
    have : z < 2 ^ (j + 1) := by rw [Nat.pow_succ]; omega
    have := blen_le this
    omega
  unfold plusFin
  split
  · exact ⟨key _ (by omega), by omega, by omega, fun h => by cases h⟩
  · split
    · exact ⟨key _ (by omega), by omega, by omega, fun h => by cases h⟩
    · split
      · exact ⟨key _ (by omega), by omega, by omega, fun h => by cases h⟩
      · exact ⟨key _ (by omega), by omega, by omega, fun h => by cases h⟩
theorem plusR_fits {x y : RNum} (hx : mid x) (hy : mid y) : fits (plusR x y) := by
  cases x using RNum.rec3 with
  | nan => exact trivial
  | inf s =>
    cases y using RNum.rec3 with
    | nan => exact trivial
    | inf t => show fits (if s = t then .inf s else .nan); split <;> exact trivial
    | fin t k f g => exact trivial
  | fin s n e m =>
    cases y using RNum.rec3 with
    | nan => exact trivial
    | inf t => exact trivial
    | fin t k f g =>
      obtain ⟨n1, e0, e1, _⟩ := hx
      obtain ⟨k1, f0, f1, _⟩ := hy
      refine plusFin_fits ?_ ?_ (by omega) (by omega)
      · exact blen_shifted n _ (by omega)
      · exact blen_shifted k _ (by omega)

/-- Times 2^d. -/
def scaleR (d : Int) : RNum → RNum
  | ⟨some (.inr (s, n, e, m))⟩ => .fin s n (e + d) m
  | x => x
theorem scaleR_fits {x : RNum} {d : Int} (h : mid x) (d0 : -1000 ≤ d) (d1 : d ≤ 1000) : fits (scaleR d x) := by
  cases x using RNum.rec3 with
  | nan => exact trivial
  | inf s => exact trivial
  | fin s n e m =>
    obtain ⟨n1, e0, e1, hm⟩ := h
    exact ⟨by omega, by omega, by omega, fun g => by rw [hm] at g; cases g⟩

end Go.Proofs.Ytdempklpmggdoaa
/- Plain facts: the reference's exact sums and products, rounded, are those of the model's arithmetic. -/
namespace Go.Proofs.Ytdempklpmggdoaa
open Go.RowKit

/-- A datum as a number of the reference. -/
def datumR : Ieee.Datum → RNum
  | .nan .. => .nan
  | .infinity s => .inf s
  | .number s m p => .fin s m p false
theorem numOf_datum (f : Ieee.Format) (b : Nat) : numOf f b = datumR (f.read b) := by
  unfold numOf datumR; cases f.read b <;> rfl

theorem roundR_fin (s : Bool) (n : Nat) (e : Int) : roundR (.fin s n e false) = Ieee.single.nearest s n e := by
  show Ieee.single.word s (rungOf Ieee.single (2 * n + 0) (e - 1)) = _
  rw [nearest_rung, Nat.add_zero]
  have := rung_scale Ieee.single n 1 (e - 1)
  rw [Nat.pow_one, Nat.mul_comm n 2] at this
  rw [this, show e - 1 + ((1 : Nat) : Int) = e by omega]

theorem plusFin_sum (s t : Bool) (X Y : Nat) (b : Int) :
    roundR (plusFin s t X Y b) = Ieee.single.nearest (if (if s = true then -(X : Int) else X) + (if t = true then -(Y : Int) else Y) = 0 then s && t else decide ((if s = true then -(X : Int) else X) + (if t = true then -(Y : Int) else Y) < 0))
      ((if s = true then -(X : Int) else X) + (if t = true then -(Y : Int) else Y)).natAbs b := by
  unfold plusFin
  by_cases h : s = t
  · subst h
    rw [if_pos rfl, roundR_fin]
    cases s
    · simp only [Bool.false_eq_true, if_false]
      have e1 : ((X : Int) + (Y : Int)).natAbs = X + Y := by omega
      rw [e1]
      by_cases h0 : (X : Int) + (Y : Int) = 0
      · rw [if_pos h0]; rfl
      · rw [if_neg h0, decide_eq_false (by omega)]
    · simp only [if_true]
      have e1 : (-(X : Int) + -(Y : Int)).natAbs = X + Y := by omega
      rw [e1]
      by_cases h0 : -(X : Int) + -(Y : Int) = 0
      · rw [if_pos h0]; rfl
      · rw [if_neg h0, decide_eq_true (by omega)]
  · rw [if_neg h]
    cases s <;> cases t <;> simp only [Bool.false_eq_true, if_false, if_true]
    · exact absurd rfl h
    · by_cases hxy : X = Y
      · rw [if_pos hxy, roundR_fin, if_pos (by omega : (X : Int) + -(Y : Int) = 0)]
        congr 1; omega
      · rw [if_neg hxy]
        by_cases hlt : Y < X
        · rw [if_pos hlt, roundR_fin, if_neg (by omega : ¬ (X : Int) + -(Y : Int) = 0), decide_eq_false (by omega)]
          congr 1; omega
        · rw [if_neg hlt, roundR_fin, if_neg (by omega : ¬ (X : Int) + -(Y : Int) = 0), decide_eq_true (by omega)]
          congr 1; omega
    · by_cases hxy : X = Y
      · rw [if_pos hxy, roundR_fin, if_pos (by omega : -(X : Int) + (Y : Int) = 0)]
        congr 1; omega
      · rw [if_neg hxy]
        by_cases hlt : Y < X
        · rw [if_pos hlt, roundR_fin, if_neg (by omega : ¬ -(X : Int) + (Y : Int) = 0), decide_eq_true (by omega)]
          congr 1; omega
        · rw [if_neg hlt, roundR_fin, if_neg (by omega : ¬ -(X : Int) + (Y : Int) = 0), decide_eq_false (by omega)]
          congr 1; omega
    · exact absurd rfl h

theorem signed_eq (s : Bool) (m k : Nat) : Ieee.signed s m k = if s = true then -((m * 2 ^ k : Nat) : Int) else ((m * 2 ^ k : Nat) : Int) := by
  unfold Ieee.signed; rw [Nat.shiftLeft_eq]

/-- Sums. -/
theorem plus_link (d d' : Ieee.Datum) : roundR (plusR (datumR d) (datumR d')) = toldD (d.sum d') := by
  cases d with
  | nan s t => cases d' <;> rfl
  | infinity s =>
    cases d' with
    | nan t f => rfl
    | infinity t =>
      show roundR (if s = t then .inf s else .nan) = toldD (if s = t then some (.infinity s) else none)
      by_cases h : s = t
      · rw [if_pos h, if_pos h]; show Ieee.single.word s 2139095040 = Ieee.single.word s Ieee.single.infRung; rw [single_inf]
      · rw [if_neg h, if_neg h]; rfl
    | number t n j => show Ieee.single.word s 2139095040 = Ieee.single.word s Ieee.single.infRung; rw [single_inf]
  | number s m i =>
    cases d' with
    | nan t f => rfl
    | infinity t => show Ieee.single.word t 2139095040 = Ieee.single.word t Ieee.single.infRung; rw [single_inf]
    | number t n j =>
      show roundR (plusFin s t (m * 2 ^ (i - min i j).toNat) (n * 2 ^ (j - min i j).toNat) (min i j)) = Ieee.single.nearest _ _ _
      rw [plusFin_sum, signed_eq, signed_eq]
end Go.Proofs.Ytdempklpmggdoaa
/- What the reference's Mul, Fma and Sub return of whatever samples: the exact number, rounded. -/
namespace Go.Proofs.Ytdempklpmggdoaa
open Go.RowKit

/-- Numbers of a few hundred digits at most. -/
def few : RNum → Prop
  | ⟨some (.inr (_, n, e, m))⟩ => blen n ≤ 500 ∧ -500 ≤ e ∧ e ≤ 500 ∧ m = false
  | _ => True
theorem few_mid {x : RNum} (h : few x) : mid x := by
  cases x using RNum.rec3 with
  | fin s n e m => exact ⟨by have := h.1; omega, by have := h.2.1; omega, by have := h.2.2.1; omega, h.2.2.2⟩
  | nan => exact trivial
  | inf s => exact trivial
theorem numOf_few (b : Nat) : few (numOf Ieee.single b) := by
  rcases numOf_cases b with h | ⟨s, h⟩ | ⟨s, n, e, h, hn, h0, h1⟩
  · rw [h]; exact trivial
  · rw [h]; exact trivial
  · rw [h]
    have : blen n ≤ 24 := blen_le hn
    exact ⟨by omega, by omega, by omega, rfl⟩

theorem timesR_mid {x y : RNum} (fx : few x) (fy : few y) : mid (timesR x y) := by
  cases x using RNum.rec3 with
  | nan => exact trivial
  | inf s =>
    cases y using RNum.rec3 with
    | nan => exact trivial
    | inf t => exact trivial
    | fin t n f g => show mid (if zeroB (.fin t n f g) = true then .nan else .inf (s != t)); split <;> exact trivial
  | fin s n e m =>
    cases y using RNum.rec3 with
    | nan => exact trivial
    | inf t => show mid (if zeroB (.fin s n e m) = true then .nan else .inf (s != t)); split <;> exact trivial
    | fin t k f g =>
      obtain ⟨a1, a2, a3, _⟩ := fx
      obtain ⟨b1, b2, b3, _⟩ := fy
      refine ⟨?_, by omega, by omega, rfl⟩
      have h2 : n * k < 2 ^ blen n * 2 ^ blen k := Nat.mul_lt_mul_of_lt_of_lt (blen_lt n) (blen_lt k)
      rw [← Nat.pow_add] at h2
      have := blen_le h2
      omega
theorem mid_fits {x : RNum} (h : mid x) : fits x := by
  cases x using RNum.rec3 with
  | nan => exact trivial
  | inf s => exact trivial
  | fin s n e m =>
    obtain ⟨a1, a2, a3, hm⟩ := h
    exact ⟨by omega, by omega, by omega, fun g => by rw [hm] at g; cases g⟩

/-- The other sign. -/
def oppR : RNum → RNum
  | ⟨none⟩ => .nan
  | ⟨some (.inl s)⟩ => .inf !s
  | ⟨some (.inr (s, n, e, m))⟩ => .fin (!s) n e m
theorem opp_mid {x : RNum} (h : mid x) : mid (oppR x) := by cases x using RNum.rec3 <;> exact h

theorem opp_num {w : World} {x : RNum} {k : Int} {s : Bool} {nv : Value} {e : Int} {m : Bool} (h : NumAt w (.agg #[.int .i64 k, .bool s, nv, .int .i64 e, .bool m]) x) : NumAt w (.agg #[.int .i64 k, .bool !s, nv, .int .i64 e, .bool m]) (oppR x) := by
  cases x using RNum.rec3 with
  | nan =>
    obtain ⟨b, e', m', h⟩ := h
    simp at h
    obtain ⟨rfl, rfl, rfl, rfl, rfl⟩ := h
    exact ⟨_, _, _, rfl⟩
  | inf t =>
    obtain ⟨e', m', h⟩ := h
    simp at h
    obtain ⟨rfl, rfl, rfl, rfl, rfl⟩ := h
    exact ⟨_, _, rfl⟩
  | fin t n f g =>
    obtain ⟨nv', h, hn⟩ := h
    simp at h
    obtain ⟨rfl, rfl, rfl, rfl, rfl⟩ := h
    exact ⟨_, rfl, hn⟩

/-- Products. -/
theorem times_link (d d' : Ieee.Datum) : roundR (timesR (datumR d) (datumR d')) = toldD (d.product d') := by
  cases d with
  | nan s t => cases d' <;> rfl
  | infinity s =>
    cases d' with
    | nan t f => rfl
    | infinity t =>
      show Ieee.single.word (s != t) 2139095040 = Ieee.single.word (s ^^ t) Ieee.single.infRung
      cases s <;> cases t <;> rw [single_inf] <;> rfl
    | number t n j =>
      show roundR (if (decide (n = 0) && !false) = true then .nan else .inf (s != t)) = toldD (if n = 0 then none else some (.infinity (s ^^ t)))
      by_cases h : n = 0
      · rw [if_pos h, if_pos (by simp [h])]; rfl
      · rw [if_neg h, if_neg (by simp [h])]
        show Ieee.single.word (s != t) 2139095040 = Ieee.single.word (s ^^ t) Ieee.single.infRung
        cases s <;> cases t <;> rw [single_inf] <;> rfl
  | number s m i =>
    cases d' with
    | nan t f => rfl
    | infinity t =>
      show roundR (if (decide (m = 0) && !false) = true then .nan else .inf (s != t)) = toldD (if m = 0 then none else some (.infinity (t ^^ s)))
      by_cases h : m = 0
      · rw [if_pos h, if_pos (by simp [h])]; rfl
      · rw [if_neg h, if_neg (by simp [h])]
        show Ieee.single.word (s != t) 2139095040 = Ieee.single.word (t ^^ s) Ieee.single.infRung
        cases s <;> cases t <;> rw [single_inf] <;> rfl
    | number t n j =>
      show roundR (.fin (s != t) (m * n) (i + j) false) = Ieee.single.nearest (s ^^ t) (m * n) (i + j)
      cases s <;> cases t <;> rw [roundR_fin] <;> rfl
theorem opp_link (d : Ieee.Datum) : oppR (datumR d) = datumR d.opposite := by cases d <;> rfl
end Go.Proofs.Ytdempklpmggdoaa
/- What the reference's DivNum and Div return of whatever samples. -/
namespace Go.Proofs.Ytdempklpmggdoaa
open Go.RowKit

/-- The quotient, cut behind its digits, and whether something is left. -/
def divR : RNum → RNum → RNum
  | ⟨none⟩, _ => .nan
  | ⟨some (.inl _)⟩, ⟨none⟩ => .nan
  | ⟨some (.inr _)⟩, ⟨none⟩ => .nan
  | ⟨some (.inl _)⟩, ⟨some (.inl _)⟩ => .nan
  | ⟨some (.inl s)⟩, ⟨some (.inr (t, _))⟩ => .inf (s != t)
  | ⟨some (.inr (s, _))⟩, ⟨some (.inl t)⟩ => .fin (s != t) 0 0 false
  | ⟨some (.inr (s, n, e, m))⟩, ⟨some (.inr (t, k, f, g))⟩ =>
    if zeroB (.fin s n e m) = true ∨ zeroB (.fin t k f g) = true then (if zeroB (.fin t k f g) = true then (if zeroB (.fin s n e m) = true then .nan else .inf (s != t)) else .fin (s != t) 0 0 false)
    else .fin (s != t) (n * 2 ^ shV n k / k) (e - f - (shV n k : Int)) (!decide (n * 2 ^ shV n k % k = 0))

/-- The quotient has 60 digits and more. -/
theorem quo_big {n k : Nat} (n0 : n ≠ 0) (k0 : k ≠ 0) : 2 ^ 59 ≤ n * 2 ^ shV n k / k := by
  have hA := blen_mul_pow n0 (shV n k)
  have h1 := blen_lt k
  have h2 : 2 ^ (n * 2 ^ shV n k).log2 ≤ n * 2 ^ shV n k := Nat.log2_self_le (Nat.mul_ne_zero n0 (by have := Nat.two_pow_pos (shV n k); omega))
  have h3 : (n * 2 ^ shV n k).log2 + 1 = blen n + shV n k := by
    rw [← hA]; unfold blen
    rw [if_neg (Nat.mul_ne_zero n0 (by have := Nat.two_pow_pos (shV n k); omega))]
  rw [Nat.le_div_iff_mul_le (by omega)]
  have h4 : 2 ^ 59 * k ≤ 2 ^ 59 * 2 ^ blen k := Nat.mul_le_mul_left _ (by omega)
  rw [← Nat.pow_add] at h4
  have h5 : 2 ^ (59 + blen k) ≤ 2 ^ (n * 2 ^ shV n k).log2 := Nat.pow_le_pow_right (by decide) (by unfold shV at h3 ⊢; omega)
  omega
theorem divR_fits {x y : RNum} (fx : few x) (fy : few y) : fits (divR x y) := by
  cases x using RNum.rec3 with
  | nan => exact trivial
  | inf s => cases y using RNum.rec3 <;> exact trivial
  | fin s n e m =>
    cases y using RNum.rec3 with
    | nan => exact trivial
    | inf t => exact ⟨by decide, by decide, by decide, fun h => by cases h⟩
    | fin t k f g =>
      show fits (if zeroB (.fin s n e m) = true ∨ zeroB (.fin t k f g) = true then (if zeroB (.fin t k f g) = true then (if zeroB (.fin s n e m) = true then .nan else .inf (s != t)) else .fin (s != t) 0 0 false) else .fin (s != t) (n * 2 ^ shV n k / k) (e - f - (shV n k : Int)) (!decide (n * 2 ^ shV n k % k = 0)))
      obtain ⟨a1, a2, a3, rfl⟩ := fx
      obtain ⟨b1, b2, b3, rfl⟩ := fy
      by_cases hz : zeroB (.fin s n e false) = true ∨ zeroB (.fin t k f false) = true
      · rw [if_pos hz]
        split
        · split <;> exact trivial
        · exact ⟨by decide, by decide, by decide, fun h => by cases h⟩
      · rw [if_neg hz]
        have n0 : n ≠ 0 := fun c => hz (Or.inl (by rw [c]; rfl))
        have k0 : k ≠ 0 := fun c => hz (Or.inr (by rw [c]; rfl))
        have hq := quo_big n0 k0
        have hsh : shV n k ≤ 560 := by unfold shV; omega
        have hle : n * 2 ^ shV n k / k ≤ n * 2 ^ shV n k := Nat.div_le_self _ _
        have hbl : blen (n * 2 ^ shV n k / k) ≤ blen n + shV n k := blen_le (Nat.lt_of_le_of_lt hle (by rw [← blen_mul_pow n0]; exact blen_lt _))
        have hp : (0 : Nat) < 2 ^ 59 := by decide
        have hne : n * 2 ^ shV n k / k ≠ 0 := by omega
        refine ⟨by omega, by omega, by omega, fun _ => ⟨hne, ?_⟩⟩
        have hl : 59 ≤ (n * 2 ^ shV n k / k).log2 := (Nat.le_log2 hne).2 hq
        unfold lastOf
        rw [single_frac]
        omega

end Go.Proofs.Ytdempklpmggdoaa
/- Plain facts: a quotient with its rest told by one bit. -/
namespace Go.Proofs.Ytdempklpmggdoaa
open Go.RowKit

/-- A quotient's digits, and one more that tells of a rest. -/
def sqV (m n A : Nat) : Nat := 2 * (m * 2 ^ A / n) + if m * 2 ^ A % n = 0 then 0 else 1
theorem sq_stick {m n B k : Nat} (hn : 0 < n) : stick (sqV m n (B + k)) (k + 1) = sqV m n B := by
  have hk := Nat.two_pow_pos k
  have e0 : m * 2 ^ (B + k) = m * 2 ^ B * 2 ^ k := by rw [Nat.pow_add, Nat.mul_assoc]
  -- the great quotient, cut, is the small one
  have e1 : m * 2 ^ (B + k) / n / 2 ^ k = m * 2 ^ B / n := by
    rw [Nat.div_div_eq_div_mul, e0, Nat.mul_div_mul_right _ _ hk]
  have d1 := Nat.div_add_mod (m * 2 ^ (B + k)) n
  have d2 := Nat.div_add_mod (m * 2 ^ B) n
  have d3 := Nat.div_add_mod (m * 2 ^ (B + k) / n) (2 ^ k)
  have r1 := Nat.mod_lt (m * 2 ^ (B + k)) hn
  have r2 := Nat.mod_lt (m * 2 ^ B) hn
  rw [e1] at d3
  obtain ⟨q, hq⟩ : ∃ q, q = m * 2 ^ B / n := ⟨_, rfl⟩
  obtain ⟨Q', hQ⟩ : ∃ Q', Q' = m * 2 ^ (B + k) / n := ⟨_, rfl⟩
  obtain ⟨r, hr⟩ : ∃ r, r = m * 2 ^ B % n := ⟨_, rfl⟩
  obtain ⟨R, hR⟩ : ∃ R, R = m * 2 ^ (B + k) % n := ⟨_, rfl⟩
  obtain ⟨t, ht⟩ : ∃ t, t = Q' % 2 ^ k := ⟨_, rfl⟩
  unfold stick sqV
  rw [← hQ, ← hR, ← hq, ← hr]
  rw [← hQ, ← hq, ← ht] at d3
  rw [← hQ, ← hR] at d1
  rw [← hq, ← hr] at d2
  have htk : t < 2 ^ k := by rw [ht]; exact Nat.mod_lt _ hk
  -- r * 2^k = n * t + R
  have key : r * 2 ^ k = n * t + R := by
    have a1 : n * Q' + R = (n * q + r) * 2 ^ k := by rw [d1, d2, e0]
    rw [← d3] at a1
    rw [Nat.mul_add, Nat.add_mul] at a1
    have a2 : n * (2 ^ k * q) = n * q * 2 ^ k := by rw [Nat.mul_comm (2 ^ k) q, Nat.mul_assoc]
    omega
  have hzero : r = 0 ↔ t = 0 ∧ R = 0 := by
    constructor
    · intro h
      rw [h, Nat.zero_mul] at key
      have k1 : n * t = 0 := by omega
      rcases Nat.mul_eq_zero.1 k1 with h' | h'
      · omega
      · exact ⟨h', by omega⟩
    · rintro ⟨h1, h2⟩
      rw [h1, h2, Nat.mul_zero] at key
      rcases Nat.mul_eq_zero.1 key with h' | h'
      · exact h'
      · omega
  have ep : 2 ^ (k + 1) = 2 * 2 ^ k := by rw [Nat.pow_succ]; omega
  obtain ⟨b, hb⟩ : ∃ b, b = if R = 0 then 0 else 1 := ⟨_, rfl⟩
  have hb2 : b < 2 := by rw [hb]; split <;> omega
  rw [← hb]
  have f1 : (2 * Q' + b) / 2 ^ (k + 1) = q := by
    rw [ep, ← Nat.div_div_eq_div_mul, show (2 * Q' + b) / 2 = Q' by omega, hQ, e1, hq]
  have f2 : (2 * Q' + b) % 2 ^ (k + 1) = 2 * t + b := by
    have g := Nat.div_add_mod (2 * Q' + b) (2 ^ (k + 1))
    rw [f1, ep] at g
    rw [ep]
    have g2 : 2 * 2 ^ k * q = 2 * (2 ^ k * q) := Nat.mul_assoc _ _ _
    omega
  rw [f1, f2]
  have hbR : b = 0 ↔ R = 0 := by rw [hb]; split <;> omega
  by_cases h : r = 0
  · obtain ⟨h1, h2⟩ := hzero.1 h
    rw [if_pos h, if_pos (by have := hbR.2 h2; omega)]
  · rw [if_neg h, if_neg]
    intro h'
    exact h (hzero.2 ⟨by omega, hbR.1 (by omega)⟩)
theorem sq_link (f : Ieee.Format) {m n A B : Nat} (x : Int) (hn : 0 < n) (hA : B ≤ A) (hq : 2 ^ (f.fractionBits + 1) ≤ m * 2 ^ B / n) :
    rungOf f (sqV m n A) (x - A - 1) = rungOf f (sqV m n B) (x - B - 1) := by
  obtain ⟨k, rfl⟩ : ∃ k, A = B + k := ⟨A - B, by omega⟩
  have e1 : m * 2 ^ (B + k) / n / 2 ^ k = m * 2 ^ B / n := by
    rw [Nat.div_div_eq_div_mul, Nat.pow_add, ← Nat.mul_assoc, Nat.mul_div_mul_right _ _ (Nat.two_pow_pos k)]
  have h1 : 2 ^ (f.fractionBits + 1 + k) ≤ m * 2 ^ (B + k) / n := by
    rw [Nat.pow_add]
    rw [← e1] at hq
    exact (Nat.le_div_iff_mul_le (Nat.two_pow_pos k)).1 hq
  have h2 : 2 ^ (f.fractionBits + 2 + k) ≤ sqV m n (B + k) := by
    unfold sqV
    rw [show f.fractionBits + 2 + k = f.fractionBits + 1 + k + 1 by omega, Nat.pow_succ]
    omega
  have hM : sqV m n (B + k) ≠ 0 := by have := Nat.two_pow_pos (f.fractionBits + 2 + k); omega
  have hlog : f.fractionBits + 2 + k ≤ (sqV m n (B + k)).log2 := (Nat.le_log2 hM).2 h2
  have := rung_stick f (M := sqV m n (B + k)) (k := k + 1) (x - (B + k : Nat) - 1) (by omega) hM (by unfold lastOf; omega)
  rw [sq_stick hn] at this
  rw [← this]
  congr 1; omega
theorem quo_digits {m n : Nat} (hm : m ≠ 0) (hn : n ≠ 0) {d : Nat} (h0 : 0 < d) : 2 ^ (d - 1) ≤ m * 2 ^ (d + n.log2 - m.log2) / n := by
  rw [Nat.le_div_iff_mul_le (by omega)]
  have h1 := Nat.log2_self_le hm
  have h2 : n < 2 ^ (n.log2 + 1) := Nat.lt_log2_self
  have a1 : 2 ^ (d - 1) * n < 2 ^ (d - 1) * 2 ^ (n.log2 + 1) := Nat.mul_lt_mul_of_pos_left h2 (Nat.two_pow_pos _)
  rw [← Nat.pow_add, show d - 1 + (n.log2 + 1) = d + n.log2 by omega] at a1
  have a2 : 2 ^ m.log2 * 2 ^ (d + n.log2 - m.log2) ≤ m * 2 ^ (d + n.log2 - m.log2) := Nat.mul_le_mul_right _ h1
  rw [← Nat.pow_add] at a2
  have a3 : 2 ^ (d + n.log2) ≤ 2 ^ (m.log2 + (d + n.log2 - m.log2)) := Nat.pow_le_pow_right (by decide) (by omega)
  omega
theorem sq_not (m n A : Nat) : 2 * (m * 2 ^ A / n) + (!decide (m * 2 ^ A % n = 0)).toNat = sqV m n A := by
  unfold sqV
  by_cases h : m * 2 ^ A % n = 0
  · rw [decide_eq_true h, if_pos h]; rfl
  · rw [decide_eq_false h, if_neg h]; rfl
theorem sq_model (m n A : Nat) : 2 * ((m <<< A) / n) + ((m <<< A) % n != 0).toNat = sqV m n A := by
  unfold sqV
  rw [Nat.shiftLeft_eq]
  by_cases h : m * 2 ^ A % n = 0
  · rw [if_pos h, h]; rfl
  · rw [if_neg h, bne_iff_ne.2 h]; rfl
end Go.Proofs.Ytdempklpmggdoaa
/- Plain facts: a quotient with its rest told by one bit, rounded: how many digits it has does not matter; the reference's quotients are the model's. -/
namespace Go.Proofs.Ytdempklpmggdoaa
open Go.RowKit

theorem zeroB_fin (s : Bool) (n : Nat) (e : Int) : zeroB (.fin s n e false) = decide (n = 0) := by
  unfold zeroB; cases n <;> rfl
theorem bne_xor (s t : Bool) : (s != t) = (s ^^ t) := by cases s <;> cases t <;> rfl
/-- Quotients. -/
theorem div_link (d d' : Ieee.Datum) : roundR (divR (datumR d) (datumR d')) = toldD (d.quotient 25 d') := by
  cases d with
  | nan s t => cases d' <;> rfl
  | infinity s =>
    cases d' with
    | nan t f => rfl
    | infinity t => rfl
    | number t n j =>
      show Ieee.single.word (s != t) 2139095040 = Ieee.single.word (s ^^ t) Ieee.single.infRung
      rw [single_inf, bne_xor]
  | number s m i =>
    cases d' with
    | nan t f => rfl
    | infinity t =>
      show roundR (.fin (s != t) 0 0 false) = Ieee.single.nearest (s ^^ t) 0 0
      rw [roundR_fin, bne_xor]
    | number t n j =>
      show roundR (divR (.fin s m i false) (.fin t n j false)) = _
      unfold divR
      dsimp only
      rw [zeroB_fin, zeroB_fin]
      simp only [decide_eq_true_eq]
      by_cases hn : n = 0
      · rw [if_pos (Or.inr hn), if_pos hn]
        by_cases hm : m = 0
        · rw [if_pos hm, show (Ieee.Datum.number s m i).quotient 25 (.number t n j) = none from by simp [Ieee.Datum.quotient, hn, hm]]; rfl
        · rw [if_neg hm, show (Ieee.Datum.number s m i).quotient 25 (.number t n j) = some (.infinity (s ^^ t)) from by simp [Ieee.Datum.quotient, hn, hm]]
          show Ieee.single.word (s != t) 2139095040 = Ieee.single.word (s ^^ t) Ieee.single.infRung
          rw [single_inf, bne_xor]
      · have em : (Ieee.Datum.number s m i).quotient 25 (.number t n j) = some (.number (s ^^ t) (sqV m n (25 + n.log2 - m.log2)) (i - j - ((25 + n.log2 - m.log2 : Nat) : Int) - 1)) := by
          rw [← sq_model]
          simp [Ieee.Datum.quotient, hn]
        rw [em]
        show _ = Ieee.single.nearest _ _ _
        rw [nearest_rung]
        by_cases hm : m = 0
        · rw [if_pos (Or.inl hm), if_neg hn, roundR_fin, nearest_rung, bne_xor]
          have z : sqV m n (25 + n.log2 - m.log2) = 0 := by unfold sqV; rw [hm, Nat.zero_mul, Nat.zero_div, Nat.zero_mod, if_pos rfl]
          rw [z]; unfold rungOf; rw [if_pos rfl, if_pos rfl]
        · rw [if_neg (by simp [hn, hm]), bne_xor]
          show Ieee.single.word _ (rungOf Ieee.single (2 * (m * 2 ^ shV m n / n) + (!decide (m * 2 ^ shV m n % n = 0)).toNat) (i - j - (shV m n : Int) - 1)) = _
          rw [sq_not]
          congr 1
          refine sq_link Ieee.single (i - j) (by omega) ?_ ?_
          · unfold shV blen
            rw [if_neg hn, if_neg hm]; omega
          · exact quo_digits hm hn (d := 25) (by omega)
end Go.Proofs.Ytdempklpmggdoaa
/- What the reference's Of returns at binary64, and F64. -/
namespace Go.Proofs.Ytdempklpmggdoaa
open Go.RowKit

theorem numOf_nan64 {b : Nat} (h1 : b / 4503599627370496 % 2048 = 2047) (h2 : b % 4503599627370496 ≠ 0) : numOf Ieee.double b = .nan := by
  unfold numOf Ieee.Format.read
  simp only [double_sign, double_binade, double_inf, double_least]
  rw [if_neg (by omega), if_neg (by omega), if_neg (by omega)]
theorem numOf_inf64 {b : Nat} (h1 : b / 4503599627370496 % 2048 = 2047) (h2 : b % 4503599627370496 = 0) : numOf Ieee.double b = .inf (b / 9223372036854775808 % 2 == 1) := by
  unfold numOf Ieee.Format.read
  simp only [double_sign, double_binade, double_inf, double_least]
  rw [if_neg (by omega), if_neg (by omega), if_pos (by omega)]
theorem numOf_small64 {b : Nat} (h1 : b / 4503599627370496 % 2048 = 0) : numOf Ieee.double b = .fin (b / 9223372036854775808 % 2 == 1) (b % 4503599627370496) (-1074) false := by
  unfold numOf Ieee.Format.read
  simp only [double_sign, double_binade, double_inf, double_least]
  rw [if_pos (by omega)]
  have : b % 9223372036854775808 = b % 4503599627370496 := by omega
  rw [this]
theorem numOf_norm64 {b : Nat} (h1 : b / 4503599627370496 % 2048 ≠ 0) (h2 : b / 4503599627370496 % 2048 ≠ 2047) :
    numOf Ieee.double b = .fin (b / 9223372036854775808 % 2 == 1) (b % 4503599627370496 + 4503599627370496) (((b / 4503599627370496 % 2048 : Nat) : Int) - 1075) false := by
  unfold numOf Ieee.Format.read
  simp only [double_sign, double_binade, double_inf, double_least]
  rw [if_neg (by omega), if_pos (by omega)]
  have e1 : 4503599627370496 + b % 9223372036854775808 % 4503599627370496 = b % 4503599627370496 + 4503599627370496 := by omega
  have e2 : (-1074 : Int) + ((b % 9223372036854775808 / 4503599627370496 - 1 : Nat) : Int) = ((b / 4503599627370496 % 2048 : Nat) : Int) - 1075 := by omega
  rw [e1, e2]

/-- The bits of a binary64 word among 64. -/
theorem of_bits64 {b : Nat} (hb : b < 18446744073709551616) :
    bits .and .u64 ((b : Int) / 9223372036854775808) 1 = ((b / 9223372036854775808 % 2 : Nat) : Int) ∧
    bits .and .u64 ((b : Int) / 4503599627370496) 2047 = ((b / 4503599627370496 % 2048 : Nat) : Int) ∧
    bits .and .u64 (b : Int) 4503599627370495 = ((b % 4503599627370496 : Nat) : Int) ∧
    bits .or .u64 ((b % 4503599627370496 : Nat) : Int) 4503599627370496 = ((b % 4503599627370496 + 4503599627370496 : Nat) : Int) := by
  refine ⟨?_, ?_, ?_, ?_⟩
  · have := u64_and1 (x := b / 9223372036854775808) (by omega)
    exact this
  · have : bits .and .u64 ((b : Int) / 4503599627370496) 2047 = (b : Int) / 4503599627370496 % 2048 := by go_bits2
    rw [this]; omega
  · have : bits .and .u64 (b : Int) 4503599627370495 = (b : Int) % 4503599627370496 := by go_bits2
    rw [this]; omega
  · rw [show (4503599627370496 : Int) = ((4503599627370496 : Nat) : Int) from rfl, u64_or_nat _ _ (by omega) (by decide), Nat.or_comm,
      show (4503599627370496 : Nat) = 2 ^ 52 * 1 from rfl, ← Nat.two_pow_add_eq_or_of_lt (i := 52) (by omega) 1]
    omega

end Go.Proofs.Ytdempklpmggdoaa
/- Plain facts: the reference's word of binary64, put together. -/
namespace Go.Proofs.Ytdempklpmggdoaa
open Go.RowKit

/-- The word that the reference puts together. -/
theorem or_word_64 {neg : Bool} {r : Nat} (hr : r < 9223372036854775808) : bits .or .u64 (signV true neg) (r : Int) = ((Ieee.double.word neg r : Nat) : Int) := by
  unfold Ieee.Format.word signV
  rw [double_sign]
  cases neg
  · show bits .or .u64 ((0 : Nat) : Int) (r : Int) = _
    rw [u64_or_nat _ _ (by decide) (by omega), Nat.zero_or]; rfl
  · show bits .or .u64 ((9223372036854775808 : Nat) : Int) (r : Int) = _
    rw [u64_or_nat _ _ (by decide) (by omega), show (9223372036854775808 : Nat) = 2 ^ 63 * 1 from rfl, ← Nat.two_pow_add_eq_or_of_lt (i := 63) hr 1]
    rfl
theorem or_word2_64 {neg : Bool} {x fr : Nat} (hx : x < 2048) (hf : fr < 4503599627370496) :
    bits .or .u64 ((Ieee.double.word neg (x * 4503599627370496) : Nat) : Int) (fr : Int) = ((Ieee.double.word neg (x * 4503599627370496 + fr) : Nat) : Int) := by
  have e : Ieee.double.word neg (x * 4503599627370496) = 2 ^ 52 * ((if neg = true then 2048 else 0) + x) := by
    unfold Ieee.Format.word; rw [double_sign]; cases neg <;> simp <;> omega
  have e2 : Ieee.double.word neg (x * 4503599627370496 + fr) = 2 ^ 52 * ((if neg = true then 2048 else 0) + x) + fr := by
    unfold Ieee.Format.word; rw [double_sign]; cases neg <;> simp <;> omega
  have hb : (if neg = true then 2048 else 0) ≤ 2048 := by split <;> omega
  rw [e2, e, u64_or_nat _ _ (by omega) (by omega), ← Nat.two_pow_add_eq_or_of_lt (i := 52) hf]
theorem word_lt_64 {neg : Bool} {r : Nat} (hr : r < 9223372036854775808) : Ieee.double.word neg r < 18446744073709551616 := by
  unfold Ieee.Format.word; rw [double_sign]; split <;> omega

/-- Carried where it must be: what is kept, and its place. -/
theorem carried_64 {n K : Nat} {T : Int} {R : Nat} (h1 : K ≤ 2 * 4503599627370496) (h2 : -1074 ≤ T) (h3 : K < 4503599627370496 → T = -1074 ∨ n = 0) (h0 : n = 0 → K = 0)
    (h4 : R = if n = 0 then 0 else min ((T - -1074).toNat * 4503599627370496 + K) 9218868437227405312) :
    ∃ (K' : Nat) (T' : Int), K' < 9007199254740992 ∧ -1074 ≤ T' ∧ T' ≤ T + 1 ∧ ((K = 9007199254740992 ∧ K' = 4503599627370496 ∧ T' = T + 1) ∨ (K < 9007199254740992 ∧ K' = K ∧ T' = T)) ∧
      (K' < 4503599627370496 → R = K') ∧ (4503599627370496 ≤ K' → R = min ((T' + 1074).toNat * 4503599627370496 + K') 9218868437227405312) := by
  by_cases hK : K = 9007199254740992
  · refine ⟨4503599627370496, T + 1, by decide, by omega, by omega, Or.inl ⟨hK, rfl, rfl⟩, fun h => absurd h (by decide), fun _ => ?_⟩
    have : n ≠ 0 := fun e => by have := h0 e; omega
    rw [h4, if_neg this]
    have e1 : (T + 1 + 1074).toNat = (T - -1074).toNat + 1 := by omega
    have e2 : ∀ y : Nat, y * 4503599627370496 + 9007199254740992 = (y + 1) * 4503599627370496 + 4503599627370496 := fun y => by omega
    rw [e1, hK, e2]
  · refine ⟨K, T, by omega, h2, by omega, Or.inr ⟨by omega, rfl, rfl⟩, fun h => ?_, fun h => ?_⟩
    · rw [h4]
      by_cases hn : n = 0
      · rw [if_pos hn, h0 hn]
      · rw [if_neg hn]
        rcases h3 h with g | g
        · rw [g]; simp; omega
        · exact absurd g hn
    · have : n ≠ 0 := fun e => by have := h0 e; omega
      rw [h4, if_neg this]
      rw [show (T - -1074).toNat = (T + 1074).toNat by omega]
end Go.Proofs.Ytdempklpmggdoaa
/- What the reference's Round returns at binary64: the nearest word. -/
namespace Go.Proofs.Ytdempklpmggdoaa
open Go.RowKit

end Go.Proofs.Ytdempklpmggdoaa
/- What the reference's Round returns at binary64 of whatever number; its Wide and Narrow. -/
namespace Go.Proofs.Ytdempklpmggdoaa
open Go.RowKit

/-- The word of binary64. -/
def roundD : RNum → Nat
  | ⟨none⟩ => 9221120237041090560
  | ⟨some (.inl s)⟩ => Ieee.double.word s 9218868437227405312
  | ⟨some (.inr (s, n, e, m))⟩ => Ieee.double.word s (rungOf Ieee.double (2 * n + m.toNat) (e - 1))
def fitsD : RNum → Prop
  | ⟨some (.inr (_, n, e, m))⟩ => blen n ≤ 6000 ∧ -5000 ≤ e ∧ e ≤ 5000 ∧ (m = true → n ≠ 0 ∧ e + 1 ≤ lastOf Ieee.double n e)
  | _ => True

end Go.Proofs.Ytdempklpmggdoaa
/- Plain facts: sums, products and quotients of two samples, rounded to binary64 and then to binary32: it does not show. -/
namespace Go.Proofs.Ytdempklpmggdoaa
open Go.RowKit

/-- No sum of two samples lies near a half-way number without being one. -/
theorem sum_mid_le {s t : Bool} {m n k1 k2 Z : Nat} (hm : m < 16777216) (hn : n < 16777216) (hk : k2 ≤ k1) (h2 : 925 ≤ k2) (hZe : Z = (Ieee.signed s m k1 + Ieee.signed t n k2).natAbs) (hK : 0 < lostK Z)
    (hmod : rne Z (lostK Z) * 2 ^ lostK Z % 2 ^ max (Z.log2 - 23) 925 = 2 ^ (max (Z.log2 - 23) 925 - 1)) : rne Z (lostK Z) * 2 ^ lostK Z = Z := by
  obtain ⟨n1, n2⟩ := rne_near Z (lostK Z)
  have h0 : Z ≠ 0 := by intro h0; rw [h0] at hK; exact absurd hK (by decide)
  have hL : Z.log2 = 52 + lostK Z := by unfold lostK at *; omega
  have hd : 2 ^ k2 ∣ Z := by
    rw [hZe, ← Int.ofNat_dvd_left]
    exact Int.dvd_add (signed_dvd s m hk) (signed_dvd t n (Nat.le_refl _))
  rcases Nat.lt_or_ge Z (2 ^ (53 + k2)) with g | g
  · have hl := (Nat.log2_lt h0).2 g
    obtain ⟨o, ho⟩ := Nat.dvd_trans (Nat.pow_dvd_pow 2 (show lostK Z ≤ k2 by omega)) hd
    have e := rne_exact o (lostK Z)
    rw [Nat.mul_comm, ← ho] at e
    rw [e, Nat.mul_comm, ← ho]
  · exfalso
    have hl := (Nat.le_log2 h0).2 g
    rw [show max (Z.log2 - 23) 925 = 29 + lostK Z by omega, show 29 + lostK Z - 1 = 28 + lostK Z by omega, Nat.pow_add, Nat.pow_add, Nat.mul_mod_mul_right] at hmod
    have hE := Nat.two_pow_pos (lostK Z)
    have hc := Nat.eq_of_mul_eq_mul_right hE hmod
    have hlo := Nat.log2_self_le h0
    rw [hL, Nat.pow_add] at hlo
    have hY : n * 2 ^ k2 < 2 ^ 23 * 2 ^ lostK Z := by
      have a1 : n * 2 ^ k2 < 2 ^ 24 * 2 ^ k2 := Nat.mul_lt_mul_of_pos_right hn (Nat.two_pow_pos _)
      rw [← Nat.pow_add] at a1 ⊢
      exact Nat.lt_of_lt_of_le a1 (Nat.pow_le_pow_right (by decide) (by omega))
    have hX : Z ≤ m * 2 ^ k1 + n * 2 ^ k2 ∧ m * 2 ^ k1 ≤ Z + n * 2 ^ k2 := by
      have x1 := signed_abs s m k1
      have x2 := signed_abs t n k2
      omega
    have hk1 : 29 + lostK Z ≤ k1 := by
      rcases Nat.lt_or_ge k1 (29 + lostK Z) with j | j
      · exfalso
        have a1 : m * 2 ^ k1 ≤ 16777215 * (2 ^ 28 * 2 ^ lostK Z) := by
          rw [← Nat.pow_add]
          exact Nat.mul_le_mul (by omega) (Nat.pow_le_pow_right (by decide) (by omega))
        generalize m * 2 ^ k1 = xE at hX a1
        generalize n * 2 ^ k2 = yE at hX hY
        generalize 2 ^ lostK Z = E at hlo hY a1
        omega
      · exact j
    obtain ⟨x, hx⟩ : ∃ x, m * 2 ^ k1 = x * 2 ^ 29 * 2 ^ lostK Z := ⟨m * 2 ^ (k1 - (29 + lostK Z)), by
      rw [Nat.mul_assoc, Nat.mul_assoc, ← Nat.pow_add, ← Nat.pow_add, show k1 - (29 + lostK Z) + (29 + lostK Z) = k1 by omega]⟩
    rw [hx] at hX
    obtain ⟨c, hcc⟩ : ∃ c, c = rne Z (lostK Z) := ⟨_, rfl⟩
    rw [← hcc] at n1 n2 hc
    have u1 : c * 2 ^ lostK Z ≤ (x * 2 ^ 29 + 2 ^ 24) * 2 ^ lostK Z := by
      rw [Nat.add_mul]
      clear hc hcc hx hlo
      generalize c * 2 ^ lostK Z = cE at n1 n2 ⊢
      generalize x * 2 ^ 29 * 2 ^ lostK Z = xE at hX ⊢
      generalize n * 2 ^ k2 = yE at hX hY
      generalize 2 ^ lostK Z = E at n1 n2 hY ⊢
      omega
    have u2 : x * 2 ^ 29 * 2 ^ lostK Z ≤ (c + 2 ^ 24) * 2 ^ lostK Z := by
      rw [Nat.add_mul]
      clear hc hcc hx hlo
      generalize c * 2 ^ lostK Z = cE at n1 n2 ⊢
      generalize x * 2 ^ 29 * 2 ^ lostK Z = xE at hX ⊢
      generalize n * 2 ^ k2 = yE at hX hY
      generalize 2 ^ lostK Z = E at n1 n2 hY ⊢
      omega
    have v1 := Nat.le_of_mul_le_mul_right u1 hE
    have v2 := Nat.le_of_mul_le_mul_right u2 hE
    omega
theorem sum_mid {s t : Bool} {m n k1 k2 Z : Nat} (hm : m < 16777216) (hn : n < 16777216) (h1 : 925 ≤ k1) (h2 : 925 ≤ k2) (hZe : Z = (Ieee.signed s m k1 + Ieee.signed t n k2).natAbs) (hK : 0 < lostK Z)
    (hmod : rne Z (lostK Z) * 2 ^ lostK Z % 2 ^ max (Z.log2 - 23) 925 = 2 ^ (max (Z.log2 - 23) 925 - 1)) : rne Z (lostK Z) * 2 ^ lostK Z = Z := by
  rcases Nat.le_total k2 k1 with g | g
  · exact sum_mid_le hm hn g h2 hZe hK hmod
  · rw [Int.add_comm] at hZe
    exact sum_mid_le hn hm g h1 hZe hK hmod

/-- No quotient of two samples lies near a half-way number without being one. -/
theorem quo_mid {m n A K : Nat} (hn0 : 0 < n) (hn : n < 16777216) (hA : 37 ≤ A) (hK : K = 8 ∨ K = 9) (hd : 2 ^ (K + 28) ∣ rne (sqV m n A) K * 2 ^ K) : rne (sqV m n A) K * 2 ^ K = sqV m n A := by
  obtain ⟨n1, n2⟩ := rne_near (sqV m n A) K
  have hE : 2 ^ K ≤ 512 := by rcases hK with h | h <;> rw [h] <;> decide
  have hd36 : 2 ^ 36 ∣ rne (sqV m n A) K * 2 ^ K := Nat.dvd_trans (Nat.pow_dvd_pow 2 (by omega)) hd
  obtain ⟨C, hC⟩ : ∃ C, C = rne (sqV m n A) K * 2 ^ K := ⟨_, rfl⟩
  rw [← hC] at n1 n2 hd36 ⊢
  have dm := Nat.div_add_mod (m * 2 ^ A) n
  have rm := Nat.mod_lt (m * 2 ^ A) hn0
  have hS : sqV m n A = 2 * (m * 2 ^ A / n) + if m * 2 ^ A % n = 0 then 0 else 1 := rfl
  obtain ⟨S, hSe⟩ : ∃ S, S = sqV m n A := ⟨_, rfl⟩
  rw [← hSe] at n1 n2 hS ⊢
  obtain ⟨W, hW⟩ : ∃ W, m * 2 ^ A = 2 ^ 36 * W := by
    refine ⟨m * 2 ^ (A - 36), ?_⟩
    rw [Nat.mul_left_comm, ← Nat.pow_add, show 36 + (A - 36) = A by omega]
  obtain ⟨v, hv⟩ := hd36
  obtain ⟨q, hq⟩ : ∃ q, q = m * 2 ^ A / n := ⟨_, rfl⟩
  obtain ⟨r, hr⟩ : ∃ r, r = m * 2 ^ A % n := ⟨_, rfl⟩
  rw [← hq, ← hr] at dm hS
  rw [← hr] at rm
  -- n * S lies within n of 2 m 2^A
  have s1 : n * S = 2 * (n * q) + n * (if r = 0 then 0 else 1) := by
    rw [hS, Nat.mul_add, Nat.mul_left_comm]
  have s2 : n * (if r = 0 then 0 else 1) = if r = 0 then 0 else n := by split <;> simp
  rw [s2] at s1
  have c1 : n * C ≤ n * (S + 256) := Nat.mul_le_mul_left _ (by omega)
  have c2 : n * S ≤ n * (C + 256) := Nat.mul_le_mul_left _ (by omega)
  rw [Nat.mul_add] at c1 c2
  have e1 : n * C = 2 ^ 36 * (n * v) := by rw [hv, Nat.mul_left_comm]
  have key : n * v = 2 * W := by
    generalize n * v = nv at e1
    generalize n * C = nC at *
    generalize n * S = nS at *
    generalize n * q = nq at *
    split at s1 <;> omega
  -- so the quotient is exact
  have e2 : n * C = 2 * (m * 2 ^ A) := by rw [e1, key, hW]; omega
  have e3 : n * (C / 2) = m * 2 ^ A := by
    have : C = 2 * (C / 2) := by omega
    have e4 : n * C = 2 * (n * (C / 2)) := by rw [← Nat.mul_left_comm, ← this]
    omega
  have hr0 : r = 0 := by rw [hr, ← e3, Nat.mul_mod_right]
  have hq2 : q = C / 2 := by rw [hq, ← e3, Nat.mul_div_cancel_left _ hn0]
  rw [hS, hr0, if_pos rfl, hq2]
  omega
end Go.Proofs.Ytdempklpmggdoaa
