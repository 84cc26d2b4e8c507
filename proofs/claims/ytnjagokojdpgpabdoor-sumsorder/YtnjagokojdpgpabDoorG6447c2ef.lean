/- Plain facts on floats as words: what is told of a datum; words that are drawn; read and written words. -/
import Derived.Test.YtnjagokojdpgpabDoorG90bb58b6
import Derived.Test.YtnjagokojdpgpabDoorG06007283
import Derived.Laws.FloatArith
import Derived.Test.YtnjagokojdpgpabDoorG28d12016
import Derived.Test.YtnjagokojdpgpabDoorG9ed15b1b
namespace Go.Proofs.YtnjagokojdpgpabDoor
open Go.RowKit

/-- What is told of a datum, or of none. -/
def toldD (d : Option Ieee.Datum) : Nat := match d with
  | none => 2143289344
  | some (.nan ..) => 2143289344
  | some x => Ieee.single.write x

theorem rungOf_le (f : Ieee.Format) (m : Nat) (p : Int) : rungOf f m p ≤ f.infRung := by
  unfold rungOf; split
  · exact Nat.zero_le _
  · exact Nat.min_le_right ..
theorem sign32 : Ieee.single.signWeight = 2147483648 := by decide
theorem inf32 : Ieee.single.infRung = 2139095040 := by decide
theorem binade32 : Ieee.single.binade = 8388608 := by decide
theorem least32 : Ieee.single.leastPlace = -149 := by decide
theorem sign64 : Ieee.double.signWeight = 9223372036854775808 := by decide
theorem inf64 : Ieee.double.infRung = 9218868437227405312 := by decide
theorem binade64 : Ieee.double.binade = 4503599627370496 := by decide
theorem least64 : Ieee.double.leastPlace = -1074 := by decide
theorem word32 (s : Bool) (r : Nat) : Ieee.single.word s r = s.toNat * 2147483648 + r := by
  unfold Ieee.Format.word; rw [sign32]; cases s <;> simp
theorem word64 (s : Bool) (r : Nat) : Ieee.double.word s r = s.toNat * 9223372036854775808 + r := by
  unfold Ieee.Format.word; rw [sign64]; cases s <;> simp
theorem nanN_word {s : Bool} {r : Nat} (h : r ≤ 2139095040) : nanN (Ieee.single.word s r) = false := by
  unfold nanN; rw [word32]; have := Bool.toNat_lt s; exact decide_eq_false (by omega)
/-- Is a word of 64 bits a NaN? -/
def nan64 (a : Nat) : Bool := decide (9218868437227405312 < a % 9223372036854775808)
theorem nan64_word {s : Bool} {r : Nat} (h : r ≤ 9218868437227405312) : nan64 (Ieee.double.word s r) = false := by
  unfold nan64; rw [word64]; have := Bool.toNat_lt s; exact decide_eq_false (by omega)
theorem nanN_write {d : Ieee.Datum} (h : d.isNaN = false) : nanN (Ieee.single.write d) = false := by
  cases d with
  | nan s t => cases h
  | infinity s => exact nanN_word (by rw [inf32]; omega)
  | number s m p =>
    show nanN (Ieee.single.nearest s m p) = false
    rw [nearest_rung]
    exact nanN_word (by have := rungOf_le Ieee.single m p; rw [inf32] at this; exact this)
theorem nan64_write {d : Ieee.Datum} (h : d.isNaN = false) : nan64 (Ieee.double.write d) = false := by
  cases d with
  | nan s t => cases h
  | infinity s => exact nan64_word (by rw [inf64]; omega)
  | number s m p =>
    show nan64 (Ieee.double.nearest s m p) = false
    rw [nearest_rung]
    exact nan64_word (by have := rungOf_le Ieee.double m p; rw [inf64] at this; exact this)
theorem toldD_some {d : Ieee.Datum} (h : d.isNaN = false) : toldD (some d) = Ieee.single.write d := by
  cases d with
  | nan s t => cases h
  | infinity s => rfl
  | number s m p => rfl
theorem write32_lt (d : Ieee.Datum) : Ieee.single.write d < 4294967296 := Ieee.single.write_lt d
theorem write64_lt (d : Ieee.Datum) : Ieee.double.write d < 18446744073709551616 := Ieee.double.write_lt d
theorem toldD_lt (d : Option Ieee.Datum) : toldD d < 4294967296 := by
  unfold toldD; split
  · omega
  · omega
  · exact write32_lt _

theorem sum_num {a b d : Ieee.Datum} (h : a.sum b = some d) : d.isNaN = false := by
  cases a <;> cases b <;> simp only [Ieee.Datum.sum] at h
  all_goals first | (cases h; done) | (cases h; rfl) | (split at h <;> first | (cases h; done) | (cases h; rfl))
theorem product_num {a b d : Ieee.Datum} (h : a.product b = some d) : d.isNaN = false := by
  cases a <;> cases b <;> simp only [Ieee.Datum.product] at h
  all_goals first | (cases h; done) | (cases h; rfl) | (split at h <;> first | (cases h; done) | (cases h; rfl))
theorem quotient_num {k : Nat} {a b d : Ieee.Datum} (h : a.quotient k b = some d) : d.isNaN = false := by
  cases a <;> cases b <;> simp only [Ieee.Datum.quotient] at h
  all_goals first | (cases h; done) | (cases h; rfl) | (split at h <;> first | (cases h; done) | (cases h; rfl) | (split at h <;> first | (cases h; done) | (cases h; rfl)))
theorem root_num {k : Nat} {a d : Ieee.Datum} (h : a.root k = some d) : d.isNaN = false := by
  cases a <;> simp only [Ieee.Datum.root] at h
  all_goals first | (cases h; done) | (cases h; rfl) | (split at h <;> first | (cases h; done) | (cases h; rfl) | (split at h <;> first | (cases h; done) | (cases h; rfl)))

theorem read32_nan {a : Nat} (h : nanN a = true) : (Ieee.single.read a).isNaN = true := by
  unfold nanN at h
  have h := of_decide_eq_true h
  unfold Ieee.Format.read
  rw [sign32, binade32, inf32, least32]
  dsimp only
  rw [if_neg (by omega), if_neg (by omega), if_neg (by omega)]
  rfl
theorem read32_num {a : Nat} (h : nanN a = false) : (Ieee.single.read a).isNaN = false := by
  unfold nanN at h
  have h := of_decide_eq_false h
  unfold Ieee.Format.read
  rw [sign32, binade32, inf32, least32]
  dsimp only
  split
  · rfl
  · split
    · rfl
    · rw [if_pos (by omega)]; rfl
theorem read64_nan {a : Nat} (h : nan64 a = true) : (Ieee.double.read a).isNaN = true := by
  unfold nan64 at h
  have h := of_decide_eq_true h
  unfold Ieee.Format.read
  rw [sign64, binade64, inf64, least64]
  dsimp only
  rw [if_neg (by omega), if_neg (by omega), if_neg (by omega)]
  rfl
theorem read64_num {a : Nat} (h : nan64 a = false) : (Ieee.double.read a).isNaN = false := by
  unfold nan64 at h
  have h := of_decide_eq_false h
  unfold Ieee.Format.read
  rw [sign64, binade64, inf64, least64]
  dsimp only
  split
  · rfl
  · split
    · rfl
    · rw [if_pos (by omega)]; rfl
theorem isNaN_cases {d : Ieee.Datum} (h : d.isNaN = true) : ∃ s t, d = .nan s t := by
  cases d with
  | nan s t => exact ⟨s, t, rfl⟩
  | infinity s => cases h
  | number s m p => cases h
theorem order_nan1 {f : Ieee.Format} {x : Nat} (y : Nat) (h : (f.read x).isNaN = true) : f.order x y = none := by
  obtain ⟨s, t, e⟩ := isNaN_cases h
  unfold Ieee.Format.order; rw [e]; cases f.read y <;> rfl
theorem order_nan2 {f : Ieee.Format} {y : Nat} (x : Nat) (h : (f.read y).isNaN = true) : f.order x y = none := by
  obtain ⟨s, t, e⟩ := isNaN_cases h
  unfold Ieee.Format.order; rw [e]; cases f.read x <;> rfl

/-- The word that is drawn where an operation has no answer. -/
def nanw (k : FloatKind) (x y : Nat) (w : World) : Nat := (Question.nanBits k x y).cut (w.tape w.drawn (.nanBits k x y))
theorem nanw32 (x y : Nat) (w : World) : nanN (nanw .f32 x y w) = true ∧ nanw .f32 x y w < 4294967296 := by
  unfold nanw
  generalize w.tape w.drawn (.nanBits .f32 x y) = t
  have e : (Question.nanBits .f32 x y).cut t = (t % 2) * 2147483648 + 2139095040 + 1 + (t / 2) % 8388607 := rfl
  rw [e]
  have hz : (t / 2) % 8388607 < 8388607 := Nat.mod_lt _ (by decide)
  have ha : t % 2 < 2 := Nat.mod_lt _ (by decide)
  clear e
  generalize (t / 2) % 8388607 = z at hz
  generalize t % 2 = a at ha
  unfold nanN
  exact ⟨decide_eq_true (by omega), by omega⟩
theorem nanw64 (x y : Nat) (w : World) : nan64 (nanw .f64 x y w) = true ∧ nanw .f64 x y w < 18446744073709551616 := by
  unfold nanw
  generalize w.tape w.drawn (.nanBits .f64 x y) = t
  have e : (Question.nanBits .f64 x y).cut t = (t % 2) * 9223372036854775808 + 9218868437227405312 + 1 + (t / 2) % 4503599627370495 := rfl
  rw [e]
  have hz : (t / 2) % 4503599627370495 < 4503599627370495 := Nat.mod_lt _ (by decide)
  have ha : t % 2 < 2 := Nat.mod_lt _ (by decide)
  clear e
  generalize (t / 2) % 4503599627370495 = z at hz
  generalize t % 2 = a at ha
  unfold nan64
  exact ⟨decide_eq_true (by omega), by omega⟩
theorem run_arith_none (op : BinOp) (hop : op = .add ∨ op = .sub ∨ op = .mul ∨ op = .quo) (t : TypeId) (k : FloatKind) (x y : Nat) (h : floatBits op k x y = none) (P : Program) (w : World) :
    (binOp op t (.float k x) (.float k y)).run P w = .ok (.float k (nanw k x y w)) w.drew := by
  unfold floatBits at h
  rcases hop with rfl | rfl | rfl | rfl
  all_goals
    simp only at h
    simp [binOp, Op.floatArith, h, nanw, Question.forced]
/-- The word that is drawn of a NaN that is made wide or narrow. -/
def nanc (k : FloatKind) (b : Nat) (w : World) : Nat := (Question.nanConv k b).cut (w.tape w.drawn (.nanConv k b))
theorem nanc32 (b : Nat) (w : World) : nanN (nanc .f32 b w) = true ∧ nanc .f32 b w < 4294967296 := by
  unfold nanc
  generalize w.tape w.drawn (.nanConv .f32 b) = t
  have e : (Question.nanConv .f32 b).cut t = (t % 2) * 2147483648 + 2139095040 + 1 + (t / 2) % 8388607 := rfl
  rw [e]
  have hz : (t / 2) % 8388607 < 8388607 := Nat.mod_lt _ (by decide)
  have ha : t % 2 < 2 := Nat.mod_lt _ (by decide)
  clear e
  generalize (t / 2) % 8388607 = z at hz
  generalize t % 2 = a at ha
  unfold nanN
  exact ⟨decide_eq_true (by omega), by omega⟩
theorem nanc64 (b : Nat) (w : World) : nan64 (nanc .f64 b w) = true ∧ nanc .f64 b w < 18446744073709551616 := by
  unfold nanc
  generalize w.tape w.drawn (.nanConv .f64 b) = t
  have e : (Question.nanConv .f64 b).cut t = (t % 2) * 9223372036854775808 + 9218868437227405312 + 1 + (t / 2) % 4503599627370495 := rfl
  rw [e]
  have hz : (t / 2) % 4503599627370495 < 4503599627370495 := Nat.mod_lt _ (by decide)
  have ha : t % 2 < 2 := Nat.mod_lt _ (by decide)
  clear e
  generalize (t / 2) % 4503599627370495 = z at hz
  generalize t % 2 = a at ha
  unfold nan64
  exact ⟨decide_eq_true (by omega), by omega⟩
theorem run_conv_nan {P : Program} (src dst : TypeId) (s k : FloatKind) (b : Nat) (ne : s ≠ k) (hs : (P.underlying src).isSome = true) (hd : P.underlying dst = some (.float k)) (h : (s.format.read b).isNaN = true) (w : World) :
    (convert src dst (.float s b)).run P w = .ok (.float k (nanc k b w)) w.drew := by
  obtain ⟨u, hs'⟩ := Option.isSome_iff_exists.1 hs
  obtain ⟨sg, t, e⟩ := isNaN_cases h
  have e' : s.decode b = .nan sg t := e
  cases u <;> simp [convert, run_underlying hs', run_underlying hd, Conv.floatToFloat, ne, e', nanc, Question.forced]
end Go.Proofs.YtnjagokojdpgpabDoor
/- Plain facts: the reference's exact sums and products, rounded, are those of the model's arithmetic. -/
namespace Go.Proofs.YtnjagokojdpgpabDoor
open Go.RowKit

/-- A datum as a number of the reference. -/
def datumR : Ieee.Datum → RNum
  | .nan .. => .nan
  | .infinity s => .inf s
  | .number s m p => .fin s m p false
theorem numOf_datum (f : Ieee.Format) (b : Nat) : numOf f b = datumR (f.read b) := by
  unfold numOf datumR; cases f.read b <;> rfl

theorem roundR_fin (s : Bool) (n : Nat) (e : Int) : roundR (.fin s n e false) = Ieee.single.nearest s n e := by
  show Ieee.single.word s (rungOf Ieee.single (2 * n + 0) (e - 1)) = _
  rw [nearest_rung, Nat.add_zero]
  have := rung_scale Ieee.single n 1 (e - 1)
  rw [Nat.pow_one, Nat.mul_comm n 2] at this
  rw [this, show e - 1 + ((1 : Nat) : Int) = e by omega]

theorem plusFin_sum (s t : Bool) (X Y : Nat) (b : Int) :
    roundR (plusFin s t X Y b) = Ieee.single.nearest (if (if s = true then -(X : Int) else X) + (if t = true then -(Y : Int) else Y) = 0 then s && t else decide ((if s = true then -(X : Int) else X) + (if t = true then -(Y : Int) else Y) < 0))
      ((if s = true then -(X : Int) else X) + (if t = true then -(Y : Int) else Y)).natAbs b := by
  unfold plusFin
  by_cases h : s = t
  · subst h
    rw [if_pos rfl, roundR_fin]
    cases s
    · simp only [Bool.false_eq_true, if_false]
      have e1 : ((X : Int) + (Y : Int)).natAbs = X + Y := by omega
      rw [e1]
      by_cases h0 : (X : Int) + (Y : Int) = 0
      · rw [if_pos h0]; rfl
      · rw [if_neg h0, decide_eq_false (by omega)]
    · simp only [if_true]
      have e1 : (-(X : Int) + -(Y : Int)).natAbs = X + Y := by omega
      rw [e1]
      by_cases h0 : -(X : Int) + -(Y : Int) = 0
      · rw [if_pos h0]; rfl
      · rw [if_neg h0, decide_eq_true (by omega)]
  · rw [if_neg h]
    cases s <;> cases t <;> simp only [Bool.false_eq_true, if_false, if_true]
    · exact absurd rfl h
    · by_cases hxy : X = Y
      · rw [if_pos hxy, roundR_fin, if_pos (by omega : (X : Int) + -(Y : Int) = 0)]
        congr 1; omega
      · rw [if_neg hxy]
        by_cases hlt : Y < X
        · rw [if_pos hlt, roundR_fin, if_neg (by omega : ¬ (X : Int) + -(Y : Int) = 0), decide_eq_false (by omega)]
          congr 1; omega
        · rw [if_neg hlt, roundR_fin, if_neg (by omega : ¬ (X : Int) + -(Y : Int) = 0), decide_eq_true (by omega)]
          congr 1; omega
    · by_cases hxy : X = Y
      · rw [if_pos hxy, roundR_fin, if_pos (by omega : -(X : Int) + (Y : Int) = 0)]
        congr 1; omega
      · rw [if_neg hxy]
        by_cases hlt : Y < X
        · rw [if_pos hlt, roundR_fin, if_neg (by omega : ¬ -(X : Int) + (Y : Int) = 0), decide_eq_true (by omega)]
          congr 1; omega
        · rw [if_neg hlt, roundR_fin, if_neg (by omega : ¬ -(X : Int) + (Y : Int) = 0), decide_eq_false (by omega)]
          congr 1; omega
    · exact absurd rfl h

theorem signed_eq (s : Bool) (m k : Nat) : Ieee.signed s m k = if s = true then -((m * 2 ^ k : Nat) : Int) else ((m * 2 ^ k : Nat) : Int) := by
  unfold Ieee.signed; rw [Nat.shiftLeft_eq]

/-- Sums. -/
theorem plus_link (d d' : Ieee.Datum) : roundR (plusR (datumR d) (datumR d')) = toldD (d.sum d') := by
  cases d with
  | nan s t => cases d' <;> rfl
  | infinity s =>
    cases d' with
    | nan t f => rfl
    | infinity t =>
      show roundR (if s = t then .inf s else .nan) = toldD (if s = t then some (.infinity s) else none)
      by_cases h : s = t
      · rw [if_pos h, if_pos h]; show Ieee.single.word s 2139095040 = Ieee.single.word s Ieee.single.infRung; rw [single_inf]
      · rw [if_neg h, if_neg h]; rfl
    | number t n j => show Ieee.single.word s 2139095040 = Ieee.single.word s Ieee.single.infRung; rw [single_inf]
  | number s m i =>
    cases d' with
    | nan t f => rfl
    | infinity t => show Ieee.single.word t 2139095040 = Ieee.single.word t Ieee.single.infRung; rw [single_inf]
    | number t n j =>
      show roundR (plusFin s t (m * 2 ^ (i - min i j).toNat) (n * 2 ^ (j - min i j).toNat) (min i j)) = Ieee.single.nearest _ _ _
      rw [plusFin_sum, signed_eq, signed_eq]
end Go.Proofs.YtnjagokojdpgpabDoor
/- What the reference's Mul, Fma and Sub return of whatever samples: the exact number, rounded. -/
namespace Go.Proofs.YtnjagokojdpgpabDoor
open Go.RowKit

/-- Numbers of a few hundred digits at most. -/
def few : RNum → Prop
  | ⟨some (.inr (_, n, e, m))⟩ => blen n ≤ 500 ∧ -500 ≤ e ∧ e ≤ 500 ∧ m = false
  | _ => True
theorem few_mid {x : RNum} (h : few x) : mid x := by
  cases x using RNum.rec3 with
  | fin s n e m => exact ⟨by have := h.1; omega, by have := h.2.1; omega, by have := h.2.2.1; omega, h.2.2.2⟩
  | nan => exact trivial
  | inf s => exact trivial
theorem numOf_few (b : Nat) : few (numOf Ieee.single b) := by
  rcases numOf_cases b with h | ⟨s, h⟩ | ⟨s, n, e, h, hn, h0, h1⟩
  · rw [h]; exact trivial
  · rw [h]; exact trivial
  · rw [h]
    have : blen n ≤ 24 := blen_le hn
    exact ⟨by omega, by omega, by omega, rfl⟩

theorem timesR_mid {x y : RNum} (fx : few x) (fy : few y) : mid (timesR x y) := by
  cases x using RNum.rec3 with
  | nan => exact trivial
  | inf s =>
    cases y using RNum.rec3 with
    | nan => exact trivial
    | inf t => exact trivial
    | fin t n f g => show mid (if zeroB (.fin t n f g) = true then .nan else .inf (s != t)); split <;> exact trivial
  | fin s n e m =>
    cases y using RNum.rec3 with
    | nan => exact trivial
    | inf t => show mid (if zeroB (.fin s n e m) = true then .nan else .inf (s != t)); split <;> exact trivial
    | fin t k f g =>
      obtain ⟨a1, a2, a3, _⟩ := fx
      obtain ⟨b1, b2, b3, _⟩ := fy
      refine ⟨?_, by omega, by omega, rfl⟩
      have h2 : n * k < 2 ^ blen n * 2 ^ blen k := Nat.mul_lt_mul_of_lt_of_lt (blen_lt n) (blen_lt k)
      rw [← Nat.pow_add] at h2
      have := blen_le h2
      omega
theorem mid_fits {x : RNum} (h : mid x) : fits x := by
  cases x using RNum.rec3 with
  | nan => exact trivial
  | inf s => exact trivial
  | fin s n e m =>
    obtain ⟨a1, a2, a3, hm⟩ := h
    exact ⟨by omega, by omega, by omega, fun g => by rw [hm] at g; cases g⟩

/-- The other sign. -/
def oppR : RNum → RNum
  | ⟨none⟩ => .nan
  | ⟨some (.inl s)⟩ => .inf !s
  | ⟨some (.inr (s, n, e, m))⟩ => .fin (!s) n e m
theorem opp_mid {x : RNum} (h : mid x) : mid (oppR x) := by cases x using RNum.rec3 <;> exact h

theorem opp_num {w : World} {x : RNum} {k : Int} {s : Bool} {nv : Value} {e : Int} {m : Bool} (h : NumAt w (.agg #[.int .i64 k, .bool s, nv, .int .i64 e, .bool m]) x) : NumAt w (.agg #[.int .i64 k, .bool !s, nv, .int .i64 e, .bool m]) (oppR x) := by
  cases x using RNum.rec3 with
  | nan =>
    obtain ⟨b, e', m', h⟩ := h
    simp at h
    obtain ⟨rfl, rfl, rfl, rfl, rfl⟩ := h
    exact ⟨_, _, _, rfl⟩
  | inf t =>
    obtain ⟨e', m', h⟩ := h
    simp at h
    obtain ⟨rfl, rfl, rfl, rfl, rfl⟩ := h
    exact ⟨_, _, rfl⟩
  | fin t n f g =>
    obtain ⟨nv', h, hn⟩ := h
    simp at h
    obtain ⟨rfl, rfl, rfl, rfl, rfl⟩ := h
    exact ⟨_, rfl, hn⟩

/-- Products. -/
theorem times_link (d d' : Ieee.Datum) : roundR (timesR (datumR d) (datumR d')) = toldD (d.product d') := by
  cases d with
  | nan s t => cases d' <;> rfl
  | infinity s =>
    cases d' with
    | nan t f => rfl
    | infinity t =>
      show Ieee.single.word (s != t) 2139095040 = Ieee.single.word (s ^^ t) Ieee.single.infRung
      cases s <;> cases t <;> rw [single_inf] <;> rfl
    | number t n j =>
      show roundR (if (decide (n = 0) && !false) = true then .nan else .inf (s != t)) = toldD (if n = 0 then none else some (.infinity (s ^^ t)))
      by_cases h : n = 0
      · rw [if_pos h, if_pos (by simp [h])]; rfl
      · rw [if_neg h, if_neg (by simp [h])]
        show Ieee.single.word (s != t) 2139095040 = Ieee.single.word (s ^^ t) Ieee.single.infRung
        cases s <;> cases t <;> rw [single_inf] <;> rfl
  | number s m i =>
    cases d' with
    | nan t f => rfl
    | infinity t =>
      show roundR (if (decide (m = 0) && !false) = true then .nan else .inf (s != t)) = toldD (if m = 0 then none else some (.infinity (t ^^ s)))
      by_cases h : m = 0
      · rw [if_pos h, if_pos (by simp [h])]; rfl
      · rw [if_neg h, if_neg (by simp [h])]
        show Ieee.single.word (s != t) 2139095040 = Ieee.single.word (t ^^ s) Ieee.single.infRung
        cases s <;> cases t <;> rw [single_inf] <;> rfl
    | number t n j =>
      show roundR (.fin (s != t) (m * n) (i + j) false) = Ieee.single.nearest (s ^^ t) (m * n) (i + j)
      cases s <;> cases t <;> rw [roundR_fin] <;> rfl
theorem opp_link (d : Ieee.Datum) : oppR (datumR d) = datumR d.opposite := by cases d <;> rfl
end Go.Proofs.YtnjagokojdpgpabDoor
/- What the reference's DivNum returns of two numbers that are not 0: the quotient to 60 digits and more, and whether something is left. -/
namespace Go.Proofs.YtnjagokojdpgpabDoor
open Go.RowKit

/-- By how much the dividend is shifted. -/
def shV (n k : Nat) : Nat := 60 + (blen k - blen n)
theorem div_start {A d : Nat} (hd : 0 < d) (h : blen d ≤ blen A) : A < d * 2 ^ (blen A - blen d + 1) := by
  have h1 := blen_lt A
  have h2 : 2 ^ (blen d - 1) ≤ d := by
    unfold blen
    rw [if_neg (by omega)]
    exact Nat.log2_self_le (by omega)
  have h3 : 0 < blen d := by unfold blen; rw [if_neg (by omega)]; omega
  have h4 : 2 ^ (blen d - 1) * 2 ^ (blen A - blen d + 1) ≤ d * 2 ^ (blen A - blen d + 1) := Nat.mul_le_mul_right _ h2
  rw [← Nat.pow_add, show blen d - 1 + (blen A - blen d + 1) = blen A by omega] at h4
  omega
theorem div_step {rest d g : Nat} (h : rest < d * 2 ^ (g + 1)) (hge : d * 2 ^ g ≤ rest) : rest - d * 2 ^ g < d * 2 ^ g := by
  rw [Nat.pow_succ, ← Nat.mul_assoc] at h
  omega
theorem div_end {A d q rest : Nat} (h : rest + d * q = A) (hr : rest < d * 2 ^ 0) : q = A / d ∧ rest = A % d := by
  rw [Nat.pow_zero, Nat.mul_one] at hr
  have hd : 0 < d := by omega
  constructor
  · rw [← h, Nat.add_mul_div_left _ _ hd, Nat.div_eq_of_lt hr, Nat.zero_add]
  · rw [← h, Nat.add_mul_mod_self_left, Nat.mod_eq_of_lt hr]
theorem blen_mul_pow {n : Nat} (h : n ≠ 0) (k : Nat) : blen (n * 2 ^ k) = blen n + k := by
  unfold blen
  rw [if_neg h, if_neg (Nat.mul_ne_zero h (by have := Nat.two_pow_pos k; omega)), log2_mul_pow h]
  omega

end Go.Proofs.YtnjagokojdpgpabDoor
/- What the reference's DivNum returns where one of the two is no finite number, or is 0. -/
namespace Go.Proofs.YtnjagokojdpgpabDoor
open Go.RowKit

end Go.Proofs.YtnjagokojdpgpabDoor
/- What the reference's DivNum and Div return of whatever samples. -/
namespace Go.Proofs.YtnjagokojdpgpabDoor
open Go.RowKit

/-- The quotient, cut behind its digits, and whether something is left. -/
def divR : RNum → RNum → RNum
  | ⟨none⟩, _ => .nan
  | ⟨some (.inl _)⟩, ⟨none⟩ => .nan
  | ⟨some (.inr _)⟩, ⟨none⟩ => .nan
  | ⟨some (.inl _)⟩, ⟨some (.inl _)⟩ => .nan
  | ⟨some (.inl s)⟩, ⟨some (.inr (t, _))⟩ => .inf (s != t)
  | ⟨some (.inr (s, _))⟩, ⟨some (.inl t)⟩ => .fin (s != t) 0 0 false
  | ⟨some (.inr (s, n, e, m))⟩, ⟨some (.inr (t, k, f, g))⟩ =>
    if zeroB (.fin s n e m) = true ∨ zeroB (.fin t k f g) = true then (if zeroB (.fin t k f g) = true then (if zeroB (.fin s n e m) = true then .nan else .inf (s != t)) else .fin (s != t) 0 0 false)
    else .fin (s != t) (n * 2 ^ shV n k / k) (e - f - (shV n k : Int)) (!decide (n * 2 ^ shV n k % k = 0))

/-- The quotient has 60 digits and more. -/
theorem quo_big {n k : Nat} (n0 : n ≠ 0) (k0 : k ≠ 0) : 2 ^ 59 ≤ n * 2 ^ shV n k / k := by
  have hA := blen_mul_pow n0 (shV n k)
  have h1 := blen_lt k
  have h2 : 2 ^ (n * 2 ^ shV n k).log2 ≤ n * 2 ^ shV n k := Nat.log2_self_le (Nat.mul_ne_zero n0 (by have := Nat.two_pow_pos (shV n k); omega))
  have h3 : (n * 2 ^ shV n k).log2 + 1 = blen n + shV n k := by
    rw [← hA]; unfold blen
    rw [if_neg (Nat.mul_ne_zero n0 (by have := Nat.two_pow_pos (shV n k); omega))]
  rw [Nat.le_div_iff_mul_le (by omega)]
  have h4 : 2 ^ 59 * k ≤ 2 ^ 59 * 2 ^ blen k := Nat.mul_le_mul_left _ (by omega)
  rw [← Nat.pow_add] at h4
  have h5 : 2 ^ (59 + blen k) ≤ 2 ^ (n * 2 ^ shV n k).log2 := Nat.pow_le_pow_right (by decide) (by unfold shV at h3 ⊢; omega)
  omega
theorem divR_fits {x y : RNum} (fx : few x) (fy : few y) : fits (divR x y) := by
  cases x using RNum.rec3 with
  | nan => exact trivial
  | inf s => cases y using RNum.rec3 <;> exact trivial
  | fin s n e m =>
    cases y using RNum.rec3 with
    | nan => exact trivial
    | inf t => exact ⟨by decide, by decide, by decide, fun h => by cases h⟩
    | fin t k f g =>
      show fits (if zeroB (.fin s n e m) = true ∨ zeroB (.fin t k f g) = true then (if zeroB (.fin t k f g) = true then (if zeroB (.fin s n e m) = true then .nan else .inf (s != t)) else .fin (s != t) 0 0 false) else .fin (s != t) (n * 2 ^ shV n k / k) (e - f - (shV n k : Int)) (!decide (n * 2 ^ shV n k % k = 0)))
      obtain ⟨a1, a2, a3, rfl⟩ := fx
      obtain ⟨b1, b2, b3, rfl⟩ := fy
      by_cases hz : zeroB (.fin s n e false) = true ∨ zeroB (.fin t k f false) = true
      · rw [if_pos hz]
        split
        · split <;> exact trivial
        · exact ⟨by decide, by decide, by decide, fun h => by cases h⟩
      · rw [if_neg hz]
        have n0 : n ≠ 0 := fun c => hz (Or.inl (by rw [c]; rfl))
        have k0 : k ≠ 0 := fun c => hz (Or.inr (by rw [c]; rfl))
        have hq := quo_big n0 k0
        have hsh : shV n k ≤ 560 := by unfold shV; omega
        have hle : n * 2 ^ shV n k / k ≤ n * 2 ^ shV n k := Nat.div_le_self _ _
        have hbl : blen (n * 2 ^ shV n k / k) ≤ blen n + shV n k := blen_le (Nat.lt_of_le_of_lt hle (by rw [← blen_mul_pow n0]; exact blen_lt _))
        have hp : (0 : Nat) < 2 ^ 59 := by decide
        have hne : n * 2 ^ shV n k / k ≠ 0 := by omega
        refine ⟨by omega, by omega, by omega, fun _ => ⟨hne, ?_⟩⟩
        have hl : 59 ≤ (n * 2 ^ shV n k / k).log2 := (Nat.le_log2 hne).2 hq
        unfold lastOf
        rw [single_frac]
        omega

end Go.Proofs.YtnjagokojdpgpabDoor
