/- What the reference's Add, Scale and Half return of whatever samples: the exact number, rounded. -/
import Derived.Test.YtedafbbpcpebbaaG89f3adde
import Derived.Test.YtedafbbpcpebbaaG5701011e
namespace Go.Proofs.Ytedafbbpcpebbaa
open Go.RowKit

/-- Numbers of middling size. -/
def mid : RNum → Prop
  | ⟨some (.inr (_, n, e, m))⟩ => blen n ≤ 1000 ∧ -1000 ≤ e ∧ e ≤ 1000 ∧ m = false
  | _ => True
theorem mid_small {x : RNum} (h : mid x) : small x := by
  cases x using RNum.rec3 with
  | fin s n e m => exact ⟨by have := h.1; omega, by have := h.2.1; omega, by have := h.2.2.1; omega⟩
  | nan => exact trivial
  | inf s => exact trivial
theorem numOf_cases (b : Nat) : numOf Ieee.single b = .nan ∨ (∃ s, numOf Ieee.single b = .inf s) ∨ ∃ s n e, numOf Ieee.single b = .fin s n e false ∧ n < 16777216 ∧ -149 ≤ e ∧ e ≤ 104 := by
  have hx : b / 8388608 % 256 < 256 := Nat.mod_lt _ (by decide)
  by_cases h1 : b / 8388608 % 256 = 255
  · by_cases h2 : b % 8388608 = 0
    · exact Or.inr (Or.inl ⟨_, numOf_inf h1 h2⟩)
    · exact Or.inl (numOf_nan h1 h2)
  · by_cases h3 : b / 8388608 % 256 = 0
    · exact Or.inr (Or.inr ⟨_, _, _, numOf_small h3, by omega, by omega, by omega⟩)
    · exact Or.inr (Or.inr ⟨_, _, _, numOf_norm h3 h1, by omega, by omega, by omega⟩)
theorem numOf_mid (b : Nat) : mid (numOf Ieee.single b) := by
  rcases numOf_cases b with h | ⟨s, h⟩ | ⟨s, n, e, h, hn, h0, h1⟩
  · rw [h]; exact trivial
  · rw [h]; exact trivial
  · rw [h]
    have : blen n ≤ 24 := blen_le hn
    exact ⟨by omega, by omega, by omega, rfl⟩
theorem blen_shifted {k : Nat} (n d : Nat) (h : blen n + d ≤ k) : blen (n * 2 ^ d) ≤ k := blen_le (shifted_lt n d h)
theorem plusFin_fits {s t : Bool} {x y : Nat} {b : Int} (hx : blen x ≤ 3000) (hy : blen y ≤ 3000) (b0 : -1000 ≤ b) (b1 : b ≤ 1000) : fits (plusFin s t x y b) := by
  have gx := blen_lt x
  have gy := blen_lt y
  obtain ⟨j, hj⟩ : ∃ j, j = 3000 := ⟨_, rfl⟩
  have px : 2 ^ blen x ≤ 2 ^ j := Nat.pow_le_pow_right (by decide) (by omega)
  have py : 2 ^ blen y ≤ 2 ^ j := Nat.pow_le_pow_right (by decide) (by omega)
  have key : ∀ z, z ≤ x + y → blen z ≤ 6000 := fun z hz => by
    have : z < 2 ^ (j + 1) := by rw [Nat.pow_succ]; omega
    have := blen_le this
    omega
  unfold plusFin
  split
  · exact ⟨key _ (by omega), by omega, by omega, fun h => by cases h⟩
  · split
    · exact ⟨key _ (by omega), by omega, by omega, fun h => by cases h⟩
    · split
      · exact ⟨key _ (by omega), by omega, by omega, fun h => by cases h⟩
      · exact ⟨key _ (by omega), by omega, by omega, fun h => by cases h⟩
theorem plusR_fits {x y : RNum} (hx : mid x) (hy : mid y) : fits (plusR x y) := by
  cases x using RNum.rec3 with
  | nan => exact trivial
  | inf s =>
    cases y using RNum.rec3 with
    | nan => exact trivial
    | inf t => show fits (if s = t then .inf s else .nan); split <;> exact trivial
    | fin t k f g => exact trivial
  | fin s n e m =>
    cases y using RNum.rec3 with
    | nan => exact trivial
    | inf t => exact trivial
    | fin t k f g =>
      obtain ⟨n1, e0, e1, _⟩ := hx
      obtain ⟨k1, f0, f1, _⟩ := hy
      refine plusFin_fits ?_ ?_ (by omega) (by omega)
      · exact blen_shifted n _ (by omega)
      · exact blen_shifted k _ (by omega)

/-- Times 2^d. -/
def scaleR (d : Int) : RNum → RNum
  | ⟨some (.inr (s, n, e, m))⟩ => .fin s n (e + d) m
  | x => x
theorem scaleR_fits {x : RNum} {d : Int} (h : mid x) (d0 : -1000 ≤ d) (d1 : d ≤ 1000) : fits (scaleR d x) := by
  cases x using RNum.rec3 with
  | nan => exact trivial
  | inf s => exact trivial
  | fin s n e m =>
    obtain ⟨n1, e0, e1, hm⟩ := h
    exact ⟨by omega, by omega, by omega, fun g => by rw [hm] at g; cases g⟩

end Go.Proofs.Ytedafbbpcpebbaa
/- Plain facts: the reference's exact sums and products, rounded, are those of the model's arithmetic. -/
namespace Go.Proofs.Ytedafbbpcpebbaa
open Go.RowKit

/-- A datum as a number of the reference. -/
def datumR : Ieee.Datum → RNum
  | .nan .. => .nan
  | .infinity s => .inf s
  | .number s m p => .fin s m p false
theorem numOf_datum (f : Ieee.Format) (b : Nat) : numOf f b = datumR (f.read b) := by
  unfold numOf datumR; cases f.read b <;> rfl

theorem roundR_fin (s : Bool) (n : Nat) (e : Int) : roundR (.fin s n e false) = Ieee.single.nearest s n e := by
  show Ieee.single.word s (rungOf Ieee.single (2 * n + 0) (e - 1)) = _
  rw [nearest_rung, Nat.add_zero]
  have := rung_scale Ieee.single n 1 (e - 1)
  rw [Nat.pow_one, Nat.mul_comm n 2] at this
  rw [this, show e - 1 + ((1 : Nat) : Int) = e by omega]

theorem plusFin_sum (s t : Bool) (X Y : Nat) (b : Int) :
    roundR (plusFin s t X Y b) = Ieee.single.nearest (if (if s = true then -(X : Int) else X) + (if t = true then -(Y : Int) else Y) = 0 then s && t else decide ((if s = true then -(X : Int) else X) + (if t = true then -(Y : Int) else Y) < 0))
      ((if s = true then -(X : Int) else X) + (if t = true then -(Y : Int) else Y)).natAbs b := by
  unfold plusFin
  by_cases h : s = t
  · subst h
    rw [if_pos rfl, roundR_fin]
    cases s
    · simp only [Bool.false_eq_true, if_false]
      have e1 : ((X : Int) + (Y : Int)).natAbs = X + Y := by omega
      rw [e1]
      by_cases h0 : (X : Int) + (Y : Int) = 0
      · rw [if_pos h0]; rfl
      · rw [if_neg h0, decide_eq_false (by omega)]
    · simp only [if_true]
      have e1 : (-(X : Int) + -(Y : Int)).natAbs = X + Y := by omega
      rw [e1]
      by_cases h0 : -(X : Int) + -(Y : Int) = 0
      · rw [if_pos h0]; rfl
      · rw [if_neg h0, decide_eq_true (by omega)]
  · rw [if_neg h]
    cases s <;> cases t <;> simp only [Bool.false_eq_true, if_false, if_true]
    · exact absurd rfl h
    · by_cases hxy : X = Y
      · rw [if_pos hxy, roundR_fin, if_pos (by omega : (X : Int) + -(Y : Int) = 0)]
        congr 1; omega
      · rw [if_neg hxy]
        by_cases hlt : Y < X
        · rw [if_pos hlt, roundR_fin, if_neg (by omega : ¬ (X : Int) + -(Y : Int) = 0), decide_eq_false (by omega)]
          congr 1; omega
        · rw [if_neg hlt, roundR_fin, if_neg (by omega : ¬ (X : Int) + -(Y : Int) = 0), decide_eq_true (by omega)]
          congr 1; omega
    · by_cases hxy : X = Y
      · rw [if_pos hxy, roundR_fin, if_pos (by omega : -(X : Int) + (Y : Int) = 0)]
        congr 1; omega
      · rw [if_neg hxy]
        by_cases hlt : Y < X
        · rw [if_pos hlt, roundR_fin, if_neg (by omega : ¬ -(X : Int) + (Y : Int) = 0), decide_eq_true (by omega)]
          congr 1; omega
        · rw [if_neg hlt, roundR_fin, if_neg (by omega : ¬ -(X : Int) + (Y : Int) = 0), decide_eq_false (by omega)]
          congr 1; omega
    · exact absurd rfl h

theorem signed_eq (s : Bool) (m k : Nat) : Ieee.signed s m k = if s = true then -((m * 2 ^ k : Nat) : Int) else ((m * 2 ^ k : Nat) : Int) := by
  unfold Ieee.signed; rw [Nat.shiftLeft_eq]

/-- Sums. -/
theorem plus_link (d d' : Ieee.Datum) : roundR (plusR (datumR d) (datumR d')) = toldD (d.sum d') := by
  cases d with
  | nan s t => cases d' <;> rfl
  | infinity s =>
    cases d' with
    | nan t f => rfl
    | infinity t =>
      show roundR (if s = t then .inf s else .nan) = toldD (if s = t then some (.infinity s) else none)
      by_cases h : s = t
      · rw [if_pos h, if_pos h]; show Ieee.single.word s 2139095040 = Ieee.single.word s Ieee.single.infRung; rw [single_inf]
      · rw [if_neg h, if_neg h]; rfl
    | number t n j => show Ieee.single.word s 2139095040 = Ieee.single.word s Ieee.single.infRung; rw [single_inf]
  | number s m i =>
    cases d' with
    | nan t f => rfl
    | infinity t => show Ieee.single.word t 2139095040 = Ieee.single.word t Ieee.single.infRung; rw [single_inf]
    | number t n j =>
      show roundR (plusFin s t (m * 2 ^ (i - min i j).toNat) (n * 2 ^ (j - min i j).toNat) (min i j)) = Ieee.single.nearest _ _ _
      rw [plusFin_sum, signed_eq, signed_eq]
end Go.Proofs.Ytedafbbpcpebbaa
/- What the reference's Mul, Fma and Sub return of whatever samples: the exact number, rounded. -/
namespace Go.Proofs.Ytedafbbpcpebbaa
open Go.RowKit

/-- Numbers of a few hundred digits at most. -/
def few : RNum → Prop
  | ⟨some (.inr (_, n, e, m))⟩ => blen n ≤ 500 ∧ -500 ≤ e ∧ e ≤ 500 ∧ m = false
  | _ => True
theorem few_mid {x : RNum} (h : few x) : mid x := by
  cases x using RNum.rec3 with
  | fin s n e m => exact ⟨by have := h.1; omega, by have := h.2.1; omega, by have := h.2.2.1; omega, h.2.2.2⟩
  | nan => exact trivial
  | inf s => exact trivial
theorem numOf_few (b : Nat) : few (numOf Ieee.single b) := by
  rcases numOf_cases b with h | ⟨s, h⟩ | ⟨s, n, e, h, hn, h0, h1⟩
  · rw [h]; exact trivial
  · rw [h]; exact trivial
  · rw [h]
    have : blen n ≤ 24 := blen_le hn
    exact ⟨by omega, by omega, by omega, rfl⟩

theorem timesR_mid {x y : RNum} (fx : few x) (fy : few y) : mid (timesR x y) := by
  cases x using RNum.rec3 with
  | nan => exact trivial
  | inf s =>
    cases y using RNum.rec3 with
    | nan => exact trivial
    | inf t => exact trivial
    | fin t n f g => show mid (if zeroB (.fin t n f g) = true then .nan else .inf (s != t)); split <;> exact trivial
  | fin s n e m =>
    cases y using RNum.rec3 with
    | nan => exact trivial
    | inf t => show mid (if zeroB (.fin s n e m) = true then .nan else .inf (s != t)); split <;> exact trivial
    | fin t k f g =>
      obtain ⟨a1, a2, a3, _⟩ := fx
      obtain ⟨b1, b2, b3, _⟩ := fy
      refine ⟨?_, by omega, by omega, rfl⟩
      have h2 : n * k < 2 ^ blen n * 2 ^ blen k := Nat.mul_lt_mul_of_lt_of_lt (blen_lt n) (blen_lt k)
      rw [← Nat.pow_add] at h2
      have := blen_le h2
      omega
theorem mid_fits {x : RNum} (h : mid x) : fits x := by
  cases x using RNum.rec3 with
  | nan => exact trivial
  | inf s => exact trivial
  | fin s n e m =>
    obtain ⟨a1, a2, a3, hm⟩ := h
    exact ⟨by omega, by omega, by omega, fun g => by rw [hm] at g; cases g⟩

/-- The other sign. -/
def oppR : RNum → RNum
  | ⟨none⟩ => .nan
  | ⟨some (.inl s)⟩ => .inf !s
  | ⟨some (.inr (s, n, e, m))⟩ => .fin (!s) n e m
theorem opp_mid {x : RNum} (h : mid x) : mid (oppR x) := by cases x using RNum.rec3 <;> exact h

theorem opp_num {w : World} {x : RNum} {k : Int} {s : Bool} {nv : Value} {e : Int} {m : Bool} (h : NumAt w (.agg #[.int .i64 k, .bool s, nv, .int .i64 e, .bool m]) x) : NumAt w (.agg #[.int .i64 k, .bool !s, nv, .int .i64 e, .bool m]) (oppR x) := by
  cases x using RNum.rec3 with
  | nan =>
    obtain ⟨b, e', m', h⟩ := h
    simp at h
    obtain ⟨rfl, rfl, rfl, rfl, rfl⟩ := h
    exact ⟨_, _, _, rfl⟩
  | inf t =>
    obtain ⟨e', m', h⟩ := h
    simp at h
    obtain ⟨rfl, rfl, rfl, rfl, rfl⟩ := h
    exact ⟨_, _, rfl⟩
  | fin t n f g =>
    obtain ⟨nv', h, hn⟩ := h
    simp at h
    obtain ⟨rfl, rfl, rfl, rfl, rfl⟩ := h
    exact ⟨_, rfl, hn⟩

/-- Products. -/
theorem times_link (d d' : Ieee.Datum) : roundR (timesR (datumR d) (datumR d')) = toldD (d.product d') := by
  cases d with
  | nan s t => cases d' <;> rfl
  | infinity s =>
    cases d' with
    | nan t f => rfl
    | infinity t =>
      show Ieee.single.word (s != t) 2139095040 = Ieee.single.word (s ^^ t) Ieee.single.infRung
      cases s <;> cases t <;> rw [single_inf] <;> rfl
    | number t n j =>
      show roundR (if (decide (n = 0) && !false) = true then .nan else .inf (s != t)) = toldD (if n = 0 then none else some (.infinity (s ^^ t)))
      by_cases h : n = 0
      · rw [if_pos h, if_pos (by simp [h])]; rfl
      · rw [if_neg h, if_neg (by simp [h])]
        show Ieee.single.word (s != t) 2139095040 = Ieee.single.word (s ^^ t) Ieee.single.infRung
        cases s <;> cases t <;> rw [single_inf] <;> rfl
  | number s m i =>
    cases d' with
    | nan t f => rfl
    | infinity t =>
      show roundR (if (decide (m = 0) && !false) = true then .nan else .inf (s != t)) = toldD (if m = 0 then none else some (.infinity (t ^^ s)))
      by_cases h : m = 0
      · rw [if_pos h, if_pos (by simp [h])]; rfl
      · rw [if_neg h, if_neg (by simp [h])]
        show Ieee.single.word (s != t) 2139095040 = Ieee.single.word (t ^^ s) Ieee.single.infRung
        cases s <;> cases t <;> rw [single_inf] <;> rfl
    | number t n j =>
      show roundR (.fin (s != t) (m * n) (i + j) false) = Ieee.single.nearest (s ^^ t) (m * n) (i + j)
      cases s <;> cases t <;> rw [roundR_fin] <;> rfl
theorem opp_link (d : Ieee.Datum) : oppR (datumR d) = datumR d.opposite := by cases d <;> rfl
end Go.Proofs.Ytedafbbpcpebbaa
/- What the reference's DivNum and Div return of whatever samples. -/
namespace Go.Proofs.Ytedafbbpcpebbaa
open Go.RowKit

/-- The quotient, cut behind its digits, and whether something is left. -/
def divR : RNum → RNum → RNum
  | ⟨none⟩, _ => .nan
  | ⟨some (.inl _)⟩, ⟨none⟩ => .nan
  | ⟨some (.inr _)⟩, ⟨none⟩ => .nan
  | ⟨some (.inl _)⟩, ⟨some (.inl _)⟩ => .nan
  | ⟨some (.inl s)⟩, ⟨some (.inr (t, _))⟩ => .inf (s != t)
  | ⟨some (.inr (s, _))⟩, ⟨some (.inl t)⟩ => .fin (s != t) 0 0 false
  | ⟨some (.inr (s, n, e, m))⟩, ⟨some (.inr (t, k, f, g))⟩ =>
    if zeroB (.fin s n e m) = true ∨ zeroB (.fin t k f g) = true then (if zeroB (.fin t k f g) = true then (if zeroB (.fin s n e m) = true then .nan else .inf (s != t)) else .fin (s != t) 0 0 false)
    else .fin (s != t) (n * 2 ^ shV n k / k) (e - f - (shV n k : Int)) (!decide (n * 2 ^ shV n k % k = 0))

/-- The quotient has 60 digits and more. -/
theorem quo_big {n k : Nat} (n0 : n ≠ 0) (k0 : k ≠ 0) : 2 ^ 59 ≤ n * 2 ^ shV n k / k := by
  have hA := blen_mul_pow n0 (shV n k)
  have h1 := blen_lt k
  have h2 : 2 ^ (n * 2 ^ shV n k).log2 ≤ n * 2 ^ shV n k := Nat.log2_self_le (Nat.mul_ne_zero n0 (by have := Nat.two_pow_pos (shV n k); omega))
  have h3 : (n * 2 ^ shV n k).log2 + 1 = blen n + shV n k := by
    rw [← hA]; unfold blen
    rw [if_neg (Nat.mul_ne_zero n0 (by have := Nat.two_pow_pos (shV n k); omega))]
  rw [Nat.le_div_iff_mul_le (by omega)]
  have h4 : 2 ^ 59 * k ≤ 2 ^ 59 * 2 ^ blen k := Nat.mul_le_mul_left _ (by omega)
  rw [← Nat.pow_add] at h4
  have h5 : 2 ^ (59 + blen k) ≤ 2 ^ (n * 2 ^ shV n k).log2 := Nat.pow_le_pow_right (by decide) (by unfold shV at h3 ⊢; omega)
  omega
theorem divR_fits {x y : RNum} (fx : few x) (fy : few y) : fits (divR x y) := by
  cases x using RNum.rec3 with
  | nan => exact trivial
  | inf s => cases y using RNum.rec3 <;> exact trivial
  | fin s n e m =>
    cases y using RNum.rec3 with
    | nan => exact trivial
    | inf t => exact ⟨by decide, by decide, by decide, fun h => by cases h⟩
    | fin t k f g =>
      show fits (if zeroB (.fin s n e m) = true ∨ zeroB (.fin t k f g) = true then (if zeroB (.fin t k f g) = true then (if zeroB (.fin s n e m) = true then .nan else .inf (s != t)) else .fin (s != t) 0 0 false) else .fin (s != t) (n * 2 ^ shV n k / k) (e - f - (shV n k : Int)) (!decide (n * 2 ^ shV n k % k = 0)))
      obtain ⟨a1, a2, a3, rfl⟩ := fx
      obtain ⟨b1, b2, b3, rfl⟩ := fy
      by_cases hz : zeroB (.fin s n e false) = true ∨ zeroB (.fin t k f false) = true
      · rw [if_pos hz]
        split
        · split <;> exact trivial
        · exact ⟨by decide, by decide, by decide, fun h => by cases h⟩
      · rw [if_neg hz]
        have n0 : n ≠ 0 := fun c => hz (Or.inl (by rw [c]; rfl))
        have k0 : k ≠ 0 := fun c => hz (Or.inr (by rw [c]; rfl))
        have hq := quo_big n0 k0
        have hsh : shV n k ≤ 560 := by unfold shV; omega
        have hle : n * 2 ^ shV n k / k ≤ n * 2 ^ shV n k := Nat.div_le_self _ _
        have hbl : blen (n * 2 ^ shV n k / k) ≤ blen n + shV n k := blen_le (Nat.lt_of_le_of_lt hle (by rw [← blen_mul_pow n0]; exact blen_lt _))
        have hp : (0 : Nat) < 2 ^ 59 := by decide
        have hne : n * 2 ^ shV n k / k ≠ 0 := by omega
        refine ⟨by omega, by omega, by omega, fun _ => ⟨hne, ?_⟩⟩
        have hl : 59 ≤ (n * 2 ^ shV n k / k).log2 := (Nat.le_log2 hne).2 hq
        unfold lastOf
        rw [single_frac]
        omega

end Go.Proofs.Ytedafbbpcpebbaa
/- Plain facts: a quotient with its rest told by one bit, rounded: how many digits it has does not matter; the reference's quotients are the model's. -/
namespace Go.Proofs.Ytedafbbpcpebbaa
open Go.RowKit

/-- A quotient's digits, and one more that tells of a rest. -/
def sqV (m n A : Nat) : Nat := 2 * (m * 2 ^ A / n) + if m * 2 ^ A % n = 0 then 0 else 1
theorem sq_stick {m n B k : Nat} (hn : 0 < n) : stick (sqV m n (B + k)) (k + 1) = sqV m n B := by
  have hk := Nat.two_pow_pos k
  have e0 : m * 2 ^ (B + k) = m * 2 ^ B * 2 ^ k := by rw [Nat.pow_add, Nat.mul_assoc]
  -- the great quotient, cut, is the small one
  have e1 : m * 2 ^ (B + k) / n / 2 ^ k = m * 2 ^ B / n := by
    rw [Nat.div_div_eq_div_mul, e0, Nat.mul_div_mul_right _ _ hk]
  have d1 := Nat.div_add_mod (m * 2 ^ (B + k)) n
  have d2 := Nat.div_add_mod (m * 2 ^ B) n
  have d3 := Nat.div_add_mod (m * 2 ^ (B + k) / n) (2 ^ k)
  have r1 := Nat.mod_lt (m * 2 ^ (B + k)) hn
  have r2 := Nat.mod_lt (m * 2 ^ B) hn
  rw [e1] at d3
  obtain ⟨q, hq⟩ : ∃ q, q = m * 2 ^ B / n := ⟨_, rfl⟩
  obtain ⟨Q', hQ⟩ : ∃ Q', Q' = m * 2 ^ (B + k) / n := ⟨_, rfl⟩
  obtain ⟨r, hr⟩ : ∃ r, r = m * 2 ^ B % n := ⟨_, rfl⟩
  obtain ⟨R, hR⟩ : ∃ R, R = m * 2 ^ (B + k) % n := ⟨_, rfl⟩
  obtain ⟨t, ht⟩ : ∃ t, t = Q' % 2 ^ k := ⟨_, rfl⟩
  unfold stick sqV
  rw [← hQ, ← hR, ← hq, ← hr]
  rw [← hQ, ← hq, ← ht] at d3
  rw [← hQ, ← hR] at d1
  rw [← hq, ← hr] at d2
  have htk : t < 2 ^ k := by rw [ht]; exact Nat.mod_lt _ hk
  -- r * 2^k = n * t + R
  have key : r * 2 ^ k = n * t + R := by
    have a1 : n * Q' + R = (n * q + r) * 2 ^ k := by rw [d1, d2, e0]
    rw [← d3] at a1
    rw [Nat.mul_add, Nat.add_mul] at a1
    have a2 : n * (2 ^ k * q) = n * q * 2 ^ k := by rw [Nat.mul_comm (2 ^ k) q, Nat.mul_assoc]
    omega
  have hzero : r = 0 ↔ t = 0 ∧ R = 0 := by
    constructor
    · intro h
      rw [h, Nat.zero_mul] at key
      have k1 : n * t = 0 := by omega
      rcases Nat.mul_eq_zero.1 k1 with h' | h'
      · omega
      · exact ⟨h', by omega⟩
    · rintro ⟨h1, h2⟩
      rw [h1, h2, Nat.mul_zero] at key
      rcases Nat.mul_eq_zero.1 key with h' | h'
      · exact h'
      · omega
  have ep : 2 ^ (k + 1) = 2 * 2 ^ k := by rw [Nat.pow_succ]; omega
  obtain ⟨b, hb⟩ : ∃ b, b = if R = 0 then 0 else 1 := ⟨_, rfl⟩
  have hb2 : b < 2 := by rw [hb]; split <;> omega
  rw [← hb]
  have f1 : (2 * Q' + b) / 2 ^ (k + 1) = q := by
    rw [ep, ← Nat.div_div_eq_div_mul, show (2 * Q' + b) / 2 = Q' by omega, hQ, e1, hq]
  have f2 : (2 * Q' + b) % 2 ^ (k + 1) = 2 * t + b := by
    have g := Nat.div_add_mod (2 * Q' + b) (2 ^ (k + 1))
    rw [f1, ep] at g
    rw [ep]
    have g2 : 2 * 2 ^ k * q = 2 * (2 ^ k * q) := Nat.mul_assoc _ _ _
    omega
  rw [f1, f2]
  have hbR : b = 0 ↔ R = 0 := by rw [hb]; split <;> omega
  by_cases h : r = 0
  · obtain ⟨h1, h2⟩ := hzero.1 h
    rw [if_pos h, if_pos (by have := hbR.2 h2; omega)]
  · rw [if_neg h, if_neg]
    intro h'
    exact h (hzero.2 ⟨by omega, hbR.1 (by omega)⟩)
theorem sq_link (f : Ieee.Format) {m n A B : Nat} (x : Int) (hn : 0 < n) (hA : B ≤ A) (hq : 2 ^ (f.fractionBits + 1) ≤ m * 2 ^ B / n) :
    rungOf f (sqV m n A) (x - A - 1) = rungOf f (sqV m n B) (x - B - 1) := by
  obtain ⟨k, rfl⟩ : ∃ k, A = B + k := ⟨A - B, by omega⟩
  have e1 : m * 2 ^ (B + k) / n / 2 ^ k = m * 2 ^ B / n := by
    rw [Nat.div_div_eq_div_mul, Nat.pow_add, ← Nat.mul_assoc, Nat.mul_div_mul_right _ _ (Nat.two_pow_pos k)]
  have h1 : 2 ^ (f.fractionBits + 1 + k) ≤ m * 2 ^ (B + k) / n := by
    rw [Nat.pow_add]
    rw [← e1] at hq
    exact (Nat.le_div_iff_mul_le (Nat.two_pow_pos k)).1 hq
  have h2 : 2 ^ (f.fractionBits + 2 + k) ≤ sqV m n (B + k) := by
    unfold sqV
    rw [show f.fractionBits + 2 + k = f.fractionBits + 1 + k + 1 by omega, Nat.pow_succ]
    omega
  have hM : sqV m n (B + k) ≠ 0 := by have := Nat.two_pow_pos (f.fractionBits + 2 + k); omega
  have hlog : f.fractionBits + 2 + k ≤ (sqV m n (B + k)).log2 := (Nat.le_log2 hM).2 h2
  have := rung_stick f (M := sqV m n (B + k)) (k := k + 1) (x - (B + k : Nat) - 1) (by omega) hM (by unfold lastOf; omega)
  rw [sq_stick hn] at this
  rw [← this]
  congr 1; omega
theorem quo_digits {m n : Nat} (hm : m ≠ 0) (hn : n ≠ 0) {d : Nat} (h0 : 0 < d) : 2 ^ (d - 1) ≤ m * 2 ^ (d + n.log2 - m.log2) / n := by
  rw [Nat.le_div_iff_mul_le (by omega)]
  have h1 := Nat.log2_self_le hm
  have h2 : n < 2 ^ (n.log2 + 1) := Nat.lt_log2_self
  have a1 : 2 ^ (d - 1) * n < 2 ^ (d - 1) * 2 ^ (n.log2 + 1) := Nat.mul_lt_mul_of_pos_left h2 (Nat.two_pow_pos _)
  rw [← Nat.pow_add, show d - 1 + (n.log2 + 1) = d + n.log2 by omega] at a1
  have a2 : 2 ^ m.log2 * 2 ^ (d + n.log2 - m.log2) ≤ m * 2 ^ (d + n.log2 - m.log2) := Nat.mul_le_mul_right _ h1
  rw [← Nat.pow_add] at a2
  have a3 : 2 ^ (d + n.log2) ≤ 2 ^ (m.log2 + (d + n.log2 - m.log2)) := Nat.pow_le_pow_right (by decide) (by omega)
  omega
theorem zeroB_fin (s : Bool) (n : Nat) (e : Int) : zeroB (.fin s n e false) = decide (n = 0) := by
  unfold zeroB; cases n <;> rfl
theorem bne_xor (s t : Bool) : (s != t) = (s ^^ t) := by cases s <;> cases t <;> rfl
theorem sq_not (m n A : Nat) : 2 * (m * 2 ^ A / n) + (!decide (m * 2 ^ A % n = 0)).toNat = sqV m n A := by
  unfold sqV
  by_cases h : m * 2 ^ A % n = 0
  · rw [decide_eq_true h, if_pos h]; rfl
  · rw [decide_eq_false h, if_neg h]; rfl
theorem sq_model (m n A : Nat) : 2 * ((m <<< A) / n) + ((m <<< A) % n != 0).toNat = sqV m n A := by
  unfold sqV
  rw [Nat.shiftLeft_eq]
  by_cases h : m * 2 ^ A % n = 0
  · rw [if_pos h, h]; rfl
  · rw [if_neg h, bne_iff_ne.2 h]; rfl
/-- Quotients. -/
theorem div_link (d d' : Ieee.Datum) : roundR (divR (datumR d) (datumR d')) = toldD (d.quotient 25 d') := by
  cases d with
  | nan s t => cases d' <;> rfl
  | infinity s =>
    cases d' with
    | nan t f => rfl
    | infinity t => rfl
    | number t n j =>
      show Ieee.single.word (s != t) 2139095040 = Ieee.single.word (s ^^ t) Ieee.single.infRung
      rw [single_inf, bne_xor]
  | number s m i =>
    cases d' with
    | nan t f => rfl
    | infinity t =>
      show roundR (.fin (s != t) 0 0 false) = Ieee.single.nearest (s ^^ t) 0 0
      rw [roundR_fin, bne_xor]
    | number t n j =>
      show roundR (divR (.fin s m i false) (.fin t n j false)) = _
      unfold divR
      dsimp only
      rw [zeroB_fin, zeroB_fin]
      simp only [decide_eq_true_eq]
      by_cases hn : n = 0
      · rw [if_pos (Or.inr hn), if_pos hn]
        by_cases hm : m = 0
        · rw [if_pos hm, show (Ieee.Datum.number s m i).quotient 25 (.number t n j) = none from by simp [Ieee.Datum.quotient, hn, hm]]; rfl
        · rw [if_neg hm, show (Ieee.Datum.number s m i).quotient 25 (.number t n j) = some (.infinity (s ^^ t)) from by simp [Ieee.Datum.quotient, hn, hm]]
          show Ieee.single.word (s != t) 2139095040 = Ieee.single.word (s ^^ t) Ieee.single.infRung
          rw [single_inf, bne_xor]
      · have em : (Ieee.Datum.number s m i).quotient 25 (.number t n j) = some (.number (s ^^ t) (sqV m n (25 + n.log2 - m.log2)) (i - j - ((25 + n.log2 - m.log2 : Nat) : Int) - 1)) := by
          rw [← sq_model]
          simp [Ieee.Datum.quotient, hn]
        rw [em]
        show _ = Ieee.single.nearest _ _ _
        rw [nearest_rung]
        by_cases hm : m = 0
        · rw [if_pos (Or.inl hm), if_neg hn, roundR_fin, nearest_rung, bne_xor]
          have z : sqV m n (25 + n.log2 - m.log2) = 0 := by unfold sqV; rw [hm, Nat.zero_mul, Nat.zero_div, Nat.zero_mod, if_pos rfl]
          rw [z]; unfold rungOf; rw [if_pos rfl, if_pos rfl]
        · rw [if_neg (by simp [hn, hm]), bne_xor]
          show Ieee.single.word _ (rungOf Ieee.single (2 * (m * 2 ^ shV m n / n) + (!decide (m * 2 ^ shV m n % n = 0)).toNat) (i - j - (shV m n : Int) - 1)) = _
          rw [sq_not]
          congr 1
          refine sq_link Ieee.single (i - j) (by omega) ?_ ?_
          · unfold shV blen
            rw [if_neg hn, if_neg hm]; omega
          · exact quo_digits hm hn (d := 25) (by omega)
end Go.Proofs.Ytedafbbpcpebbaa
