/- Plain facts on floats as words: what is told of a datum; words that are drawn; read and written words. -/
import Derived.Test.YtieojgblamkgoaaGreatDoorG6be878c8
import Derived.Test.YtieojgblamkgoaaGreatDoorGaf0088f8
import Derived.Laws.FloatArith
import Derived.Test.YtieojgblamkgoaaGreatDoorG680b955f
import Derived.Test.YtieojgblamkgoaaGreatDoorG0ad7cc59
namespace Go.Proofs.YtieojgblamkgoaaGreatDoor
open Go.RowKit

/-- What is told of a datum, or of none. -/
def toldD (d : Option Ieee.Datum) : Nat := match d with
  | none => 2143289344
  | some (.nan ..) => 2143289344
  | some x => Ieee.single.write x

theorem rungOf_le (f : Ieee.Format) (m : Nat) (p : Int) : rungOf f m p ≤ f.infRung := by
  unfold rungOf; split
  · exact Nat.zero_le _
  · exact Nat.min_le_right ..
theorem sign32 : Ieee.single.signWeight = 2147483648 := by decide
theorem inf32 : Ieee.single.infRung = 2139095040 := by decide
theorem binade32 : Ieee.single.binade = 8388608 := by decide
theorem least32 : Ieee.single.leastPlace = -149 := by decide
theorem sign64 : Ieee.double.signWeight = 9223372036854775808 := by decide
theorem inf64 : Ieee.double.infRung = 9218868437227405312 := by decide
theorem binade64 : Ieee.double.binade = 4503599627370496 := by decide
theorem least64 : Ieee.double.leastPlace = -1074 := by decide
theorem word32 (s : Bool) (r : Nat) : Ieee.single.word s r = s.toNat * 2147483648 + r := by
  unfold Ieee.Format.word; rw [sign32]; cases s <;> simp
theorem word64 (s : Bool) (r : Nat) : Ieee.double.word s r = s.toNat * 9223372036854775808 + r := by
  unfold Ieee.Format.word; rw [sign64]; cases s <;> simp
theorem nanN_word {s : Bool} {r : Nat} (h : r ≤ 2139095040) : nanN (Ieee.single.word s r) = false := by
  unfold nanN; rw [word32]; have := Bool.toNat_lt s; exact decide_eq_false (by omega)
/-- Is a word of 64 bits a NaN? -/
def nan64 (a : Nat) : Bool := decide (9218868437227405312 < a % 9223372036854775808)
theorem nan64_word {s : Bool} {r : Nat} (h : r ≤ 9218868437227405312) : nan64 (Ieee.double.word s r) = false := by
  unfold nan64; rw [word64]; have := Bool.toNat_lt s; exact decide_eq_false (by omega)
theorem nanN_write {d : Ieee.Datum} (h : d.isNaN = false) : nanN (Ieee.single.write d) = false := by
  cases d with
  | nan s t => cases h
  | infinity s => exact nanN_word (by rw [inf32]; omega)
  | number s m p =>
    show nanN (Ieee.single.nearest s m p) = false
    rw [nearest_rung]
    exact nanN_word (by have := rungOf_le Ieee.single m p; rw [inf32] at this; exact this)
theorem nan64_write {d : Ieee.Datum} (h : d.isNaN = false) : nan64 (Ieee.double.write d) = false := by
  cases d with
  | nan s t => cases h
  | infinity s => exact nan64_word (by rw [inf64]; omega)
  | number s m p =>
    show nan64 (Ieee.double.nearest s m p) = false
    rw [nearest_rung]
    exact nan64_word (by have := rungOf_le Ieee.double m p; rw [inf64] at this; exact this)
theorem toldD_some {d : Ieee.Datum} (h : d.isNaN = false) : toldD (some d) = Ieee.single.write d := by
  cases d with
  | nan s t => cases h
  | infinity s => rfl
  | number s m p => rfl
theorem write32_lt (d : Ieee.Datum) : Ieee.single.write d < 4294967296 := Ieee.single.write_lt d
theorem write64_lt (d : Ieee.Datum) : Ieee.double.write d < 18446744073709551616 := Ieee.double.write_lt d
theorem toldD_lt (d : Option Ieee.Datum) : toldD d < 4294967296 := by
  unfold toldD; split
  · omega
  · omega
  · exact write32_lt _

theorem sum_num {a b d : Ieee.Datum} (h : a.sum b = some d) : d.isNaN = false := by
  cases a <;> cases b <;> simp only [Ieee.Datum.sum] at h
  all_goals first | (cases h; done) | (cases h; rfl) | (split at h <;> first | (cases h; done) | (cases h; rfl))
theorem product_num {a b d : Ieee.Datum} (h : a.product b = some d) : d.isNaN = false := by
  cases a <;> cases b <;> simp only [Ieee.Datum.product] at h
  all_goals first | (cases h; done) | (cases h; rfl) | (split at h <;> first | (cases h; done) | (cases h; rfl))
theorem quotient_num {k : Nat} {a b d : Ieee.Datum} (h : a.quotient k b = some d) : d.isNaN = false := by
  cases a <;> cases b <;> simp only [Ieee.Datum.quotient] at h
  all_goals first | (cases h; done) | (cases h; rfl) | (split at h <;> first | (cases h; done) | (cases h; rfl) | (split at h <;> first | (cases h; done) | (cases h; rfl)))
theorem root_num {k : Nat} {a d : Ieee.Datum} (h : a.root k = some d) : d.isNaN = false := by
  cases a <;> simp only [Ieee.Datum.root] at h
  all_goals first | (cases h; done) | (cases h; rfl) | (split at h <;> first | (cases h; done) | (cases h; rfl) | (split at h <;> first | (cases h; done) | (cases h; rfl)))

theorem read32_nan {a : Nat} (h : nanN a = true) : (Ieee.single.read a).isNaN = true := by
  unfold nanN at h
  have h := of_decide_eq_true h
  unfold Ieee.Format.read
  rw [sign32, binade32, inf32, least32]
  dsimp only
  rw [if_neg (by omega), if_neg (by omega), if_neg (by omega)]
  rfl
theorem read32_num {a : Nat} (h : nanN a = false) : (Ieee.single.read a).isNaN = false := by
  unfold nanN at h
  have h := of_decide_eq_false h
  unfold Ieee.Format.read
  rw [sign32, binade32, inf32, least32]
  dsimp only
  split
  · rfl
  · split
    · rfl
    · rw [if_pos (by omega)]; rfl
theorem read64_nan {a : Nat} (h : nan64 a = true) : (Ieee.double.read a).isNaN = true := by
  unfold nan64 at h
  have h := of_decide_eq_true h
  unfold Ieee.Format.read
  rw [sign64, binade64, inf64, least64]
  dsimp only
  rw [if_neg (by omega), if_neg (by omega), if_neg (by omega)]
  rfl
theorem read64_num {a : Nat} (h : nan64 a = false) : (Ieee.double.read a).isNaN = false := by
  unfold nan64 at h
  have h := of_decide_eq_false h
  unfold Ieee.Format.read
  rw [sign64, binade64, inf64, least64]
  dsimp only
  split
  · rfl
  · split
    · rfl
    · rw [if_pos (by omega)]; rfl
theorem isNaN_cases {d : Ieee.Datum} (h : d.isNaN = true) : ∃ s t, d = .nan s t := by
  cases d with
  | nan s t => exact ⟨s, t, rfl⟩
  | infinity s => cases h
  | number s m p => cases h
theorem order_nan1 {f : Ieee.Format} {x : Nat} (y : Nat) (h : (f.read x).isNaN = true) : f.order x y = none := by
  obtain ⟨s, t, e⟩ := isNaN_cases h
  unfold Ieee.Format.order; rw [e]; cases f.read y <;> rfl
theorem order_nan2 {f : Ieee.Format} {y : Nat} (x : Nat) (h : (f.read y).isNaN = true) : f.order x y = none := by
  obtain ⟨s, t, e⟩ := isNaN_cases h
  unfold Ieee.Format.order; rw [e]; cases f.read x <;> rfl

/-- The word that is drawn where an operation has no answer. -/
def nanw (k : FloatKind) (x y : Nat) (w : World) : Nat := (Question.nanBits k x y).cut (w.tape w.drawn (.nanBits k x y))
theorem nanw32 (x y : Nat) (w : World) : nanN (nanw .f32 x y w) = true ∧ nanw .f32 x y w < 4294967296 := by
  unfold nanw
  generalize w.tape w.drawn (.nanBits .f32 x y) = t
  have e : (Question.nanBits .f32 x y).cut t = (t % 2) * 2147483648 + 2139095040 + 1 + (t / 2) % 8388607 := rfl
  rw [e]
  have hz : (t / 2) % 8388607 < 8388607 := Nat.mod_lt _ (by decide)
  have ha : t % 2 < 2 := Nat.mod_lt _ (by decide)
  clear e
  generalize (t / 2) % 8388607 = z at hz
  generalize t % 2 = a at ha
  unfold nanN
  exact ⟨decide_eq_true (by omega), by omega⟩
theorem nanw64 (x y : Nat) (w : World) : nan64 (nanw .f64 x y w) = true ∧ nanw .f64 x y w < 18446744073709551616 := by
  unfold nanw
  generalize w.tape w.drawn (.nanBits .f64 x y) = t
  have e : (Question.nanBits .f64 x y).cut t = (t % 2) * 9223372036854775808 + 9218868437227405312 + 1 + (t / 2) % 4503599627370495 := rfl
  rw [e]
  have hz : (t / 2) % 4503599627370495 < 4503599627370495 := Nat.mod_lt _ (by decide)
  have ha : t % 2 < 2 := Nat.mod_lt _ (by decide)
  clear e
  generalize (t / 2) % 4503599627370495 = z at hz
  generalize t % 2 = a at ha
  unfold nan64
  exact ⟨decide_eq_true (by omega), by omega⟩
theorem run_arith_none (op : BinOp) (hop : op = .add ∨ op = .sub ∨ op = .mul ∨ op = .quo) (t : TypeId) (k : FloatKind) (x y : Nat) (h : floatBits op k x y = none) (P : Program) (w : World) :
    (binOp op t (.float k x) (.float k y)).run P w = .ok (.float k (nanw k x y w)) w.drew := by
  unfold floatBits at h
  rcases hop with rfl | rfl | rfl | rfl
  all_goals
    simp only at h
    simp [binOp, Op.floatArith, h, nanw, Question.forced]
/-- The word that is drawn of a NaN that is made wide or narrow. -/
def nanc (k : FloatKind) (b : Nat) (w : World) : Nat := (Question.nanConv k b).cut (w.tape w.drawn (.nanConv k b))
theorem nanc32 (b : Nat) (w : World) : nanN (nanc .f32 b w) = true ∧ nanc .f32 b w < 4294967296 := by
  unfold nanc
  generalize w.tape w.drawn (.nanConv .f32 b) = t
  have e : (Question.nanConv .f32 b).cut t = (t % 2) * 2147483648 + 2139095040 + 1 + (t / 2) % 8388607 := rfl
  rw [e]
  have hz : (t / 2) % 8388607 < 8388607 := Nat.mod_lt _ (by decide)
  have ha : t % 2 < 2 := Nat.mod_lt _ (by decide)
  clear e
  generalize (t / 2) % 8388607 = z at hz
  generalize t % 2 = a at ha
  unfold nanN
  exact ⟨decide_eq_true (by omega), by omega⟩
theorem nanc64 (b : Nat) (w : World) : nan64 (nanc .f64 b w) = true ∧ nanc .f64 b w < 18446744073709551616 := by
  unfold nanc
  generalize w.tape w.drawn (.nanConv .f64 b) = t
  have e : (Question.nanConv .f64 b).cut t = (t % 2) * 9223372036854775808 + 9218868437227405312 + 1 + (t / 2) % 4503599627370495 := rfl
  rw [e]
  have hz : (t / 2) % 4503599627370495 < 4503599627370495 := Nat.mod_lt _ (by decide)
  have ha : t % 2 < 2 := Nat.mod_lt _ (by decide)
  clear e
  generalize (t / 2) % 4503599627370495 = z at hz
  generalize t % 2 = a at ha
  unfold nan64
  exact ⟨decide_eq_true (by omega), by omega⟩
theorem run_conv_nan {P : Program} (src dst : TypeId) (s k : FloatKind) (b : Nat) (ne : s ≠ k) (hs : (P.underlying src).isSome = true) (hd : P.underlying dst = some (.float k)) (h : (s.format.read b).isNaN = true) (w : World) :
    (convert src dst (.float s b)).run P w = .ok (.float k (nanc k b w)) w.drew := by
  obtain ⟨u, hs'⟩ := Option.isSome_iff_exists.1 hs
  obtain ⟨sg, t, e⟩ := isNaN_cases h
  have e' : s.decode b = .nan sg t := e
  cases u <;> simp [convert, run_underlying hs', run_underlying hd, Conv.floatToFloat, ne, e', nanc, Question.forced]
end Go.Proofs.YtieojgblamkgoaaGreatDoor
/- Plain facts: the reference's exact sums and products, rounded, are those of the model's arithmetic. -/
namespace Go.Proofs.YtieojgblamkgoaaGreatDoor
open Go.RowKit

/-- A datum as a number of the reference. -/
def datumR : Ieee.Datum → RNum
  | .nan .. => .nan
  | .infinity s => .inf s
  | .number s m p => .fin s m p false
theorem numOf_datum (f : Ieee.Format) (b : Nat) : numOf f b = datumR (f.read b) := by
  unfold numOf datumR; cases f.read b <;> rfl

theorem roundR_fin (s : Bool) (n : Nat) (e : Int) : roundR (.fin s n e false) = Ieee.single.nearest s n e := by
  show Ieee.single.word s (rungOf Ieee.single (2 * n + 0) (e - 1)) = _
  rw [nearest_rung, Nat.add_zero]
  have := rung_scale Ieee.single n 1 (e - 1)
  rw [Nat.pow_one, Nat.mul_comm n 2] at this
  rw [this, show e - 1 + ((1 : Nat) : Int) = e by omega]

theorem plusFin_sum (s t : Bool) (X Y : Nat) (b : Int) :
    roundR (plusFin s t X Y b) = Ieee.single.nearest (if (if s = true then -(X : Int) else X) + (if t = true then -(Y : Int) else Y) = 0 then s && t else decide ((if s = true then -(X : Int) else X) + (if t = true then -(Y : Int) else Y) < 0))
      ((if s = true then -(X : Int) else X) + (if t = true then -(Y : Int) else Y)).natAbs b := by
  unfold plusFin
  by_cases h : s = t
  · subst h
    rw [if_pos rfl, roundR_fin]
    cases s
    · simp only [Bool.false_eq_true, if_false]
      have e1 : ((X : Int) + (Y : Int)).natAbs = X + Y := by omega
      rw [e1]
      by_cases h0 : (X : Int) + (Y : Int) = 0
      · rw [if_pos h0]; rfl
      · rw [if_neg h0, decide_eq_false (by omega)]
    · simp only [if_true]
      have e1 : (-(X : Int) + -(Y : Int)).natAbs = X + Y := by omega
      rw [e1]
      by_cases h0 : -(X : Int) + -(Y : Int) = 0
      · rw [if_pos h0]; rfl
      · rw [if_neg h0, decide_eq_true (by omega)]
  · rw [if_neg h]
    cases s <;> cases t <;> simp only [Bool.false_eq_true, if_false, if_true]
    · exact absurd rfl h
    · by_cases hxy : X = Y
      · rw [if_pos hxy, roundR_fin, if_pos (by omega : (X : Int) + -(Y : Int) = 0)]
        congr 1; omega
      · rw [if_neg hxy]
        by_cases hlt : Y < X
        · rw [if_pos hlt, roundR_fin, if_neg (by omega : ¬ (X : Int) + -(Y : Int) = 0), decide_eq_false (by omega)]
          congr 1; omega
        · rw [if_neg hlt, roundR_fin, if_neg (by omega : ¬ (X : Int) + -(Y : Int) = 0), decide_eq_true (by omega)]
          congr 1; omega
    · by_cases hxy : X = Y
      · rw [if_pos hxy, roundR_fin, if_pos (by omega : -(X : Int) + (Y : Int) = 0)]
        congr 1; omega
      · rw [if_neg hxy]
        by_cases hlt : Y < X
        · rw [if_pos hlt, roundR_fin, if_neg (by omega : ¬ -(X : Int) + (Y : Int) = 0), decide_eq_true (by omega)]
          congr 1; omega
        · rw [if_neg hlt, roundR_fin, if_neg (by omega : ¬ -(X : Int) + (Y : Int) = 0), decide_eq_false (by omega)]
          congr 1; omega
    · exact absurd rfl h

theorem signed_eq (s : Bool) (m k : Nat) : Ieee.signed s m k = if s = true then -((m * 2 ^ k : Nat) : Int) else ((m * 2 ^ k : Nat) : Int) := by
  unfold Ieee.signed; rw [Nat.shiftLeft_eq]

/-- Sums. -/
theorem plus_link (d d' : Ieee.Datum) : roundR (plusR (datumR d) (datumR d')) = toldD (d.sum d') := by
  cases d with
  | nan s t => cases d' <;> rfl
  | infinity s =>
    cases d' with
    | nan t f => rfl
    | infinity t =>
      show roundR (if s = t then .inf s else .nan) = toldD (if s = t then some (.infinity s) else none)
      by_cases h : s = t
      · rw [if_pos h, if_pos h]; show Ieee.single.word s 2139095040 = Ieee.single.word s Ieee.single.infRung; rw [single_inf]
      · rw [if_neg h, if_neg h]; rfl
    | number t n j => show Ieee.single.word s 2139095040 = Ieee.single.word s Ieee.single.infRung; rw [single_inf]
  | number s m i =>
    cases d' with
    | nan t f => rfl
    | infinity t => show Ieee.single.word t 2139095040 = Ieee.single.word t Ieee.single.infRung; rw [single_inf]
    | number t n j =>
      show roundR (plusFin s t (m * 2 ^ (i - min i j).toNat) (n * 2 ^ (j - min i j).toNat) (min i j)) = Ieee.single.nearest _ _ _
      rw [plusFin_sum, signed_eq, signed_eq]
end Go.Proofs.YtieojgblamkgoaaGreatDoor
/- What the reference's Mul, Fma and Sub return of whatever samples: the exact number, rounded. -/
namespace Go.Proofs.YtieojgblamkgoaaGreatDoor
open Go.RowKit

/-- Numbers of a few hundred digits at most. -/
def few : RNum → Prop
  | ⟨some (.inr (_, n, e, m))⟩ => blen n ≤ 500 ∧ -500 ≤ e ∧ e ≤ 500 ∧ m = false
  | _ => True
theorem few_mid {x : RNum} (h : few x) : mid x := by
  cases x using RNum.rec3 with
  | fin s n e m => exact ⟨by have := h.1; omega, by have := h.2.1; omega, by have := h.2.2.1; omega, h.2.2.2⟩
  | nan => exact trivial
  | inf s => exact trivial
theorem numOf_few (b : Nat) : few (numOf Ieee.single b) := by
  rcases numOf_cases b with h | ⟨s, h⟩ | ⟨s, n, e, h, hn, h0, h1⟩
  · rw [h]; exact trivial
  · rw [h]; exact trivial
  · rw [h]
    have : blen n ≤ 24 := blen_le hn
    exact ⟨by omega, by omega, by omega, rfl⟩

theorem timesR_mid {x y : RNum} (fx : few x) (fy : few y) : mid (timesR x y) := by
  cases x using RNum.rec3 with
  | nan => exact trivial
  | inf s =>
    cases y using RNum.rec3 with
    | nan => exact trivial
    | inf t => exact trivial
    | fin t n f g => show mid (if zeroB (.fin t n f g) = true then .nan else .inf (s != t)); split <;> exact trivial
  | fin s n e m =>
    cases y using RNum.rec3 with
    | nan => exact trivial
    | inf t => show mid (if zeroB (.fin s n e m) = true then .nan else .inf (s != t)); split <;> exact trivial
    | fin t k f g =>
      obtain ⟨a1, a2, a3, _⟩ := fx
      obtain ⟨b1, b2, b3, _⟩ := fy
      refine ⟨?_, by omega, by omega, rfl⟩
      have h2 : n * k < 2 ^ blen n * 2 ^ blen k := Nat.mul_lt_mul_of_lt_of_lt (blen_lt n) (blen_lt k)
      rw [← Nat.pow_add] at h2
      have := blen_le h2
      omega
theorem mid_fits {x : RNum} (h : mid x) : fits x := by
  cases x using RNum.rec3 with
  | nan => exact trivial
  | inf s => exact trivial
  | fin s n e m =>
    obtain ⟨a1, a2, a3, hm⟩ := h
    exact ⟨by omega, by omega, by omega, fun g => by rw [hm] at g; cases g⟩

/-- The other sign. -/
def oppR : RNum → RNum
  | ⟨none⟩ => .nan
  | ⟨some (.inl s)⟩ => .inf !s
  | ⟨some (.inr (s, n, e, m))⟩ => .fin (!s) n e m
theorem opp_mid {x : RNum} (h : mid x) : mid (oppR x) := by cases x using RNum.rec3 <;> exact h

theorem opp_num {w : World} {x : RNum} {k : Int} {s : Bool} {nv : Value} {e : Int} {m : Bool} (h : NumAt w (.agg #[.int .i64 k, .bool s, nv, .int .i64 e, .bool m]) x) : NumAt w (.agg #[.int .i64 k, .bool !s, nv, .int .i64 e, .bool m]) (oppR x) := by
  cases x using RNum.rec3 with
  | nan =>
    obtain ⟨b, e', m', h⟩ := h
    simp at h
    obtain ⟨rfl, rfl, rfl, rfl, rfl⟩ := h
    exact ⟨_, _, _, rfl⟩
  | inf t =>
    obtain ⟨e', m', h⟩ := h
    simp at h
    obtain ⟨rfl, rfl, rfl, rfl, rfl⟩ := h
    exact ⟨_, _, rfl⟩
  | fin t n f g =>
    obtain ⟨nv', h, hn⟩ := h
    simp at h
    obtain ⟨rfl, rfl, rfl, rfl, rfl⟩ := h
    exact ⟨_, rfl, hn⟩

/-- Products. -/
theorem times_link (d d' : Ieee.Datum) : roundR (timesR (datumR d) (datumR d')) = toldD (d.product d') := by
  cases d with
  | nan s t => cases d' <;> rfl
  | infinity s =>
    cases d' with
    | nan t f => rfl
    | infinity t =>
      show Ieee.single.word (s != t) 2139095040 = Ieee.single.word (s ^^ t) Ieee.single.infRung
      cases s <;> cases t <;> rw [single_inf] <;> rfl
    | number t n j =>
      show roundR (if (decide (n = 0) && !false) = true then .nan else .inf (s != t)) = toldD (if n = 0 then none else some (.infinity (s ^^ t)))
      by_cases h : n = 0
      · rw [if_pos h, if_pos (by simp [h])]; rfl
      · rw [if_neg h, if_neg (by simp [h])]
        show Ieee.single.word (s != t) 2139095040 = Ieee.single.word (s ^^ t) Ieee.single.infRung
        cases s <;> cases t <;> rw [single_inf] <;> rfl
  | number s m i =>
    cases d' with
    | nan t f => rfl
    | infinity t =>
      show roundR (if (decide (m = 0) && !false) = true then .nan else .inf (s != t)) = toldD (if m = 0 then none else some (.infinity (t ^^ s)))
      by_cases h : m = 0
      · rw [if_pos h, if_pos (by simp [h])]; rfl
      · rw [if_neg h, if_neg (by simp [h])]
        show Ieee.single.word (s != t) 2139095040 = Ieee.single.word (t ^^ s) Ieee.single.infRung
        cases s <;> cases t <;> rw [single_inf] <;> rfl
    | number t n j =>
      show roundR (.fin (s != t) (m * n) (i + j) false) = Ieee.single.nearest (s ^^ t) (m * n) (i + j)
      cases s <;> cases t <;> rw [roundR_fin] <;> rfl
theorem opp_link (d : Ieee.Datum) : oppR (datumR d) = datumR d.opposite := by cases d <;> rfl
end Go.Proofs.YtieojgblamkgoaaGreatDoor
/- What the reference's DivNum and Div return of whatever samples. -/
namespace Go.Proofs.YtieojgblamkgoaaGreatDoor
open Go.RowKit

/-- The quotient, cut behind its digits, and whether something is left. -/
def divR : RNum → RNum → RNum
  | ⟨none⟩, _ => .nan
  | ⟨some (.inl _)⟩, ⟨none⟩ => .nan
  | ⟨some (.inr _)⟩, ⟨none⟩ => .nan
  | ⟨some (.inl _)⟩, ⟨some (.inl _)⟩ => .nan
  | ⟨some (.inl s)⟩, ⟨some (.inr (t, _))⟩ => .inf (s != t)
  | ⟨some (.inr (s, _))⟩, ⟨some (.inl t)⟩ => .fin (s != t) 0 0 false
  | ⟨some (.inr (s, n, e, m))⟩, ⟨some (.inr (t, k, f, g))⟩ =>
    if zeroB (.fin s n e m) = true ∨ zeroB (.fin t k f g) = true then (if zeroB (.fin t k f g) = true then (if zeroB (.fin s n e m) = true then .nan else .inf (s != t)) else .fin (s != t) 0 0 false)
    else .fin (s != t) (n * 2 ^ shV n k / k) (e - f - (shV n k : Int)) (!decide (n * 2 ^ shV n k % k = 0))

theorem divnum_any (va vb : Value) (x y : RNum) (w : World) (hx : NumAt w va x) (hy : NumAt w vb y) (fx : few x) (fy : few y) :
    Calls Tryz.prog 102 #[va, vb] w fun e w' => ∃ v, e = .returned v ∧ NumAt w' v (divR x y) ∧ Q w w' := by
  cases x using RNum.rec3 with
  | nan => exact div_nan1 va vb y w hx hy
  | inf s =>
    cases y using RNum.rec3 with
    | nan => exact div_nan2 va vb _ w hx hy (fun k s' p L C e m h => by
        obtain ⟨e', m', h'⟩ := hx
        rw [h'] at h
        intro hk
        rw [hk] at h
        simp at h)
    | inf t => exact div_infinf va vb s t w hx hy
    | fin t n f g => exact div_inffin va vb s t n f g w hx hy
  | fin s n e m =>
    cases y using RNum.rec3 with
    | nan => exact div_nan2 va vb _ w hx hy (fun k s' p L C e' m' h => by
        obtain ⟨nv, h', hn⟩ := hx
        rw [h'] at h
        intro hk
        rw [hk] at h
        simp at h)
    | inf t => exact div_fininf va vb s t n e m w hx hy
    | fin t k f g =>
      show Calls Tryz.prog 102 #[va, vb] w fun x w' => ∃ v, x = .returned v ∧ NumAt w' v (if zeroB (.fin s n e m) = true ∨ zeroB (.fin t k f g) = true then (if zeroB (.fin t k f g) = true then (if zeroB (.fin s n e m) = true then .nan else .inf (s != t)) else .fin (s != t) 0 0 false) else .fin (s != t) (n * 2 ^ shV n k / k) (e - f - (shV n k : Int)) (!decide (n * 2 ^ shV n k % k = 0))) ∧ Q w w'
      by_cases hz : zeroB (.fin s n e m) = true ∨ zeroB (.fin t k f g) = true
      · rw [if_pos hz]; exact div_nought va vb s t n k e f m g w hx hy hz
      · rw [if_neg hz]
        obtain ⟨a1, a2, a3, rfl⟩ := fx
        obtain ⟨b1, b2, b3, rfl⟩ := fy
        obtain ⟨nv, rfl, hn⟩ := hx
        obtain ⟨kv, rfl, hk⟩ := hy
        have n0 : n ≠ 0 := fun c => hz (Or.inl (by rw [c]; rfl))
        have k0 : k ≠ 0 := fun c => hz (Or.inr (by rw [c]; rfl))
        exact div_fin s t nv kv n k e f w hn hk n0 k0 a1 (by omega) (by omega) b1 (by omega) (by omega)

/-- The quotient has 60 digits and more. -/
theorem quo_big {n k : Nat} (n0 : n ≠ 0) (k0 : k ≠ 0) : 2 ^ 59 ≤ n * 2 ^ shV n k / k := by
  have hA := blen_mul_pow n0 (shV n k)
  have h1 := blen_lt k
  have h2 : 2 ^ (n * 2 ^ shV n k).log2 ≤ n * 2 ^ shV n k := Nat.log2_self_le (Nat.mul_ne_zero n0 (by have := Nat.two_pow_pos (shV n k); omega))
  have h3 : (n * 2 ^ shV n k).log2 + 1 = blen n + shV n k := by
    rw [← hA]; unfold blen
    rw [if_neg (Nat.mul_ne_zero n0 (by have := Nat.two_pow_pos (shV n k); omega))]
  rw [Nat.le_div_iff_mul_le (by omega)]
  have h4 : 2 ^ 59 * k ≤ 2 ^ 59 * 2 ^ blen k := Nat.mul_le_mul_left _ (by omega)
  rw [← Nat.pow_add] at h4
  have h5 : 2 ^ (59 + blen k) ≤ 2 ^ (n * 2 ^ shV n k).log2 := Nat.pow_le_pow_right (by decide) (by unfold shV at h3 ⊢; omega)
  omega
theorem divR_fits {x y : RNum} (fx : few x) (fy : few y) : fits (divR x y) := by
  cases x using RNum.rec3 with
  | nan => exact trivial
  | inf s => cases y using RNum.rec3 <;> exact trivial
  | fin s n e m =>
    cases y using RNum.rec3 with
    | nan => exact trivial
    | inf t => exact ⟨by decide, by decide, by decide, fun h => by cases h⟩
    | fin t k f g =>
      show fits (if zeroB (.fin s n e m) = true ∨ zeroB (.fin t k f g) = true then (if zeroB (.fin t k f g) = true then (if zeroB (.fin s n e m) = true then .nan else .inf (s != t)) else .fin (s != t) 0 0 false) else .fin (s != t) (n * 2 ^ shV n k / k) (e - f - (shV n k : Int)) (!decide (n * 2 ^ shV n k % k = 0)))
      obtain ⟨a1, a2, a3, rfl⟩ := fx
      obtain ⟨b1, b2, b3, rfl⟩ := fy
      by_cases hz : zeroB (.fin s n e false) = true ∨ zeroB (.fin t k f false) = true
      · rw [if_pos hz]
        split
        · split <;> exact trivial
        · exact ⟨by decide, by decide, by decide, fun h => by cases h⟩
      · rw [if_neg hz]
        have n0 : n ≠ 0 := fun c => hz (Or.inl (by rw [c]; rfl))
        have k0 : k ≠ 0 := fun c => hz (Or.inr (by rw [c]; rfl))
        have hq := quo_big n0 k0
        have hsh : shV n k ≤ 560 := by unfold shV; omega
        have hle : n * 2 ^ shV n k / k ≤ n * 2 ^ shV n k := Nat.div_le_self _ _
        have hbl : blen (n * 2 ^ shV n k / k) ≤ blen n + shV n k := blen_le (Nat.lt_of_le_of_lt hle (by rw [← blen_mul_pow n0]; exact blen_lt _))
        have hp : (0 : Nat) < 2 ^ 59 := by decide
        have hne : n * 2 ^ shV n k / k ≠ 0 := by omega
        refine ⟨by omega, by omega, by omega, fun _ => ⟨hne, ?_⟩⟩
        have hl : 59 ≤ (n * 2 ^ shV n k / k).log2 := (Nat.le_log2 hne).2 hq
        unfold lastOf
        rw [single_frac]
        omega

end Go.Proofs.YtieojgblamkgoaaGreatDoor
/- What the functions of package bits that package arith calls return: class, NaN, made, key, least, greatest; what was in memory stays as it was. -/
namespace Go.Proofs.YtieojgblamkgoaaGreatDoor
open Go.RowKit

theorem and_lo (s : Int) (h0 : 0 ≤ s) (h1 : s < 2147483648) : bits .and .u32 s 2147483648 = 0 := by go_bits2
theorem and_hi (s : Int) (h0 : 2147483648 ≤ s) (h1 : s ≤ 4294967295) : bits .and .u32 s 2147483648 = 2147483648 := by go_bits2
theorem or_lo (s : Int) (h0 : 0 ≤ s) (h1 : s < 2147483648) : bits .or .u32 s 2147483648 = s + 2147483648 := by go_bits2
theorem and_255 (s : Int) (h0 : 0 ≤ s) (h1 : s ≤ 4294967295) : bits .and .u32 s 255 = s % 256 := by go_bits2
theorem and_frac (s : Int) (h0 : 0 ≤ s) (h1 : s ≤ 4294967295) : bits .and .u32 s 8388607 = s % 8388608 := by go_bits2

/-- A sample's key. -/
def keyV (s : Int) : Int := if s < 2147483648 then s + 2147483648 else 4294967295 - s
theorem keyV_lo {s : Int} (h : s < 2147483648) : keyV s = s + 2147483648 := by unfold keyV; rw [if_pos h]
theorem keyV_hi {s : Int} (h : 2147483648 ≤ s) : keyV s = 4294967295 - s := by unfold keyV; rw [if_neg (by omega)]
/-- Whether a stands ahead of b. -/
def befB (a b : Int) : Bool := decide (keyV a < keyV b)
def leastV (a b : Int) : Int := if befB b a = true then b else a
def greatestV (a b : Int) : Int := if befB a b = true then b else a

/-- Exponent and fraction of a sample. -/
def expV (s : Int) : Int := s / 8388608 % 256
def fracV (s : Int) : Int := s % 8388608
def negB (s : Int) : Bool := decide (2147483648 ≤ s)
theorem expV_bd (s : Int) : 0 ≤ expV s ∧ expV s ≤ 255 := by unfold expV; omega
theorem fracV_bd (s : Int) : 0 ≤ fracV s ∧ fracV s ≤ 8388607 := by unfold fracV; omega
/-- The class by number: 1 NaN, 2 infinity, 3 normal, 4 small, 5 nought. -/
def classV (s : Int) : Int := if expV s = 255 then (if fracV s = 0 then 2 else 1) else if expV s = 0 then (if fracV s = 0 then 5 else 4) else 3
theorem neg_bit {s : Int} (h0 : 0 ≤ s) (h1 : s ≤ 4294967295) : (bits .and .u32 s 2147483648 != 0) = negB s := by
  unfold negB
  by_cases h : s < 2147483648
  · rw [and_lo s h0 h]; simp; omega
  · rw [and_hi s (by omega) h1]; simp; omega
theorem exp_bits {s : Int} (h0 : 0 ≤ s) (h1 : s ≤ 4294967295) : bits .and .u32 (s / 8388608) 255 = expV s := and_255 _ (by omega) (by omega)
theorem frac_bits {s : Int} (h0 : 0 ≤ s) (h1 : s ≤ 4294967295) : bits .and .u32 s 8388607 = fracV s := and_frac _ h0 h1
theorem classV_1 {s : Int} (h : expV s = 255) (g : ¬ fracV s = 0) : classV s = 1 := by unfold classV; rw [if_pos h, if_neg g]
theorem classV_2 {s : Int} (h : expV s = 255) (g : fracV s = 0) : classV s = 2 := by unfold classV; rw [if_pos h, if_pos g]
theorem classV_3 {s : Int} (h : ¬ expV s = 255) (g : ¬ expV s = 0) : classV s = 3 := by unfold classV; rw [if_neg h, if_neg g]
theorem classV_4 {s : Int} (h : expV s = 0) (g : ¬ fracV s = 0) : classV s = 4 := by unfold classV; rw [if_neg (by omega), if_pos h, if_neg g]
theorem classV_5 {s : Int} (h : expV s = 0) (g : fracV s = 0) : classV s = 5 := by unfold classV; rw [if_neg (by omega), if_pos h, if_pos g]

set_option maxHeartbeats 400000 in
theorem makeup_any (s : Int) (h0 : 0 ≤ s) (h1 : s ≤ 4294967295) (w : World) :
    Calls Tryz.prog 136 #[.int .u32 s] w fun e w' => e = .returned (.agg #[.bool (negB s), .int .u32 (expV s), .int .u32 (fracV s)]) ∧ Q w w' := by
  have e1 := neg_bit h0 h1
  have e2 := exp_bits h0 h1
  have e3 := frac_bits h0 h1
  go_enter Tryz.func136, Tryz.ntmps136
  go_wp2
  exact bodyPost_ret (v := .agg #[.bool (negB s), .int .u32 (expV s), .int .u32 (fracV s)]) (by simp [results, Tryz.results136, go_sem]) rfl ⟨rfl, (Q.refl w).cells _ _⟩

set_option maxHeartbeats 400000 in
theorem class_any (s : Int) (h0 : 0 ≤ s) (h1 : s ≤ 4294967295) (w : World) :
    Calls Tryz.prog 107 #[.int .u32 s] w fun e w' => e = .returned (.int .i64 (classV s)) ∧ Q w w' := by
  obtain ⟨x0, x1⟩ := expV_bd s
  obtain ⟨f0, f1⟩ := fracV_bd s
  go_enter Tryz.func107, Tryz.ntmps107
  go_wp2_with fail
  refine (makeup_any s h0 h1 _).mono ?_
  rintro e w1 ⟨rfl, q1⟩
  go_wp2_with fail
  all_goals
    go_ret
    exact ⟨ret_int (by first | exact (classV_1 (by assumption) (by assumption)).symm | exact (classV_2 (by assumption) (by assumption)).symm | exact (classV_3 (by assumption) (by assumption)).symm | exact (classV_4 (by assumption) (by assumption)).symm | exact (classV_5 (by assumption) (by assumption)).symm), q1.cells _ _⟩

theorem class_nan (a : Nat) : (classV (a : Int) == 1) = nanN a := by
  unfold nanN classV expV fracV
  by_cases h1 : (a : Int) / 8388608 % 256 = 255
  · rw [if_pos h1]
    by_cases h2 : (a : Int) % 8388608 = 0
    · rw [if_pos h2, decide_eq_false (by omega)]; rfl
    · rw [if_neg h2, decide_eq_true (by omega)]; rfl
  · rw [if_neg h1, decide_eq_false (by omega)]
    split
    · split <;> rfl
    · rfl

set_option maxHeartbeats 400000 in
theorem isnan_any (a : Nat) (ha : a < 4294967296) (w : World) :
    Calls Tryz.prog 83 #[.int .u32 a] w fun e w' => e = .returned (.bool (nanN a)) ∧ Q w w' := by
  have e1 := class_nan a
  go_enter Tryz.func83, Tryz.ntmps83
  go_wp2_with fail
  refine (class_any a (by omega) (by omega) _).mono ?_
  rintro e w1 ⟨rfl, q1⟩
  go_wp2_with fail
  go_ret
  exact ⟨rfl, q1⟩

/-- A sample, or the made NaN. -/
def madeN (a : Nat) : Nat := if nanN a = true then 2143289344 else a
theorem madeN_lt {a : Nat} (h : a < 4294967296) : madeN a < 4294967296 := by unfold madeN; split <;> omega
theorem madeN_of {a : Nat} (h : nanN a = false) : madeN a = a := by unfold madeN; rw [h]; rfl
theorem madeN_nan {a : Nat} (h : nanN a = true) : madeN a = 2143289344 := by unfold madeN; rw [h]; rfl
set_option maxHeartbeats 400000 in
theorem made_any (a : Nat) (ha : a < 4294967296) (w : World) :
    Calls Tryz.prog 160 #[.int .u32 a] w fun e w' => e = .returned (.int .u32 (madeN a : Nat)) ∧ Q w w' := by
  cases h : nanN a
  · rw [madeN_of h]
    go_enter Tryz.func160, Tryz.ntmps160
    go_wp2_with fail
    refine (isnan_any a ha _).mono ?_
    rintro e w1 ⟨rfl, q1⟩
    go_wp2_with fail
    go_ret
    exact ⟨rfl, q1⟩
  · rw [madeN_nan h]
    go_enter Tryz.func160, Tryz.ntmps160
    go_wp2_with fail
    refine (isnan_any a ha _).mono ?_
    rintro e w1 ⟨rfl, q1⟩
    go_wp2_with fail
    go_ret
    exact ⟨rfl, q1⟩

set_option maxHeartbeats 400000 in
theorem key_any (s : Int) (h0 : 0 ≤ s) (h1 : s ≤ 4294967295) (w : World) :
    Calls Tryz.prog 81 #[.int .u32 s] w fun e w' => e = .returned (.int .u32 (keyV s)) ∧ w' = w := by
  by_cases h : s < 2147483648
  · have e1 := and_lo s h0 h
    have e2 := or_lo s h0 h
    go_enter Tryz.func81, Tryz.ntmps81
    go_wp2
    go_ret
    exact ⟨ret_int (keyV_lo h).symm, rfl⟩
  · have e1 := and_hi s (by omega) h1
    go_enter Tryz.func81, Tryz.ntmps81
    go_wp2
    go_ret
    exact ⟨ret_int (keyV_hi (by omega)).symm, rfl⟩

end Go.Proofs.YtieojgblamkgoaaGreatDoor
/- What package arith's Add, Sub, Mul, Div, Half, Less, Equal, Least, Greatest and Wide return, in the model's own words of floats; what was in memory stays as it was. -/
namespace Go.Proofs.YtieojgblamkgoaaGreatDoor
open Go.RowKit

theorem f32from (a : Nat) (w : World) : (callFunc 29 #[.int .u32 (a : Int)]).run Tryz.prog w = .ok (.value (.float .f32 a)) w := by
  rw [run_callFunc_extern (e := Extern.MathFloatBits.float32frombits) Tryz.func29 (by kernel_rfl) (by kernel_rfl) (by kernel_rfl) (by kernel_rfl)]
  rfl
theorem f32bits (x : Nat) (w : World) : (callFunc 63 #[.float .f32 x]).run Tryz.prog w = .ok (.value (.int .u32 (x : Int))) w := by
  rw [run_callFunc_extern (e := Extern.MathFloatBits.float32bits) Tryz.func63 (by kernel_rfl) (by kernel_rfl) (by kernel_rfl) (by kernel_rfl)]
  rfl
theorem f64bits (x : Nat) (w : World) : (callFunc 138 #[.float .f64 x]).run Tryz.prog w = .ok (.value (.int .u64 (x : Int))) w := by
  rw [run_callFunc_extern (e := Extern.MathFloatBits.float64bits) Tryz.func138 (by kernel_rfl) (by kernel_rfl) (by kernel_rfl) (by kernel_rfl)]
  rfl
theorem f64from (a : Nat) (w : World) : (callFunc 148 #[.int .u64 (a : Int)]).run Tryz.prog w = .ok (.value (.float .f64 a)) w := by
  rw [run_callFunc_extern (e := Extern.MathFloatBits.float64frombits) Tryz.func148 (by kernel_rfl) (by kernel_rfl) (by kernel_rfl) (by kernel_rfl)]
  rfl
theorem same32 (x : Nat) (w : World) : (convert 64 64 (.float .f32 x)).run Tryz.prog w = .ok (.float .f32 x) w :=
  run_convert_float_float w 64 64 .f32 .f32 x x (by kernel_rfl) Tryz.underlying64 rfl

set_option maxHeartbeats 400000 in
theorem sample_any (x : Nat) (hx : x < 4294967296) (w : World) : Calls Tryz.prog 155 #[.float .f32 x] w fun e w' => e = .returned (.int .u32 (madeN x : Nat)) ∧ Q w w' := by
  have l1 := f32bits
  go_enter Tryz.func155, Tryz.ntmps155
  go_wp2_with fail
  refine (made_any x hx _).mono ?_
  rintro e w1 ⟨rfl, q1⟩
  go_wp2_with fail
  go_ret
  exact ⟨rfl, q1⟩

end Go.Proofs.YtieojgblamkgoaaGreatDoor
/- Plain facts: words of both forms as values: how they are read, and their order, told by their rungs (the bits below the sign). -/
namespace Go.Proofs.YtieojgblamkgoaaGreatDoor
open Go.RowKit

theorem cmp_of {a b : Int} {o : Ordering} (h : (a < b ∧ o = .lt) ∨ (a = b ∧ o = .eq) ∨ (b < a ∧ o = .gt)) : compare a b = o := by
  rcases h with ⟨h, rfl⟩ | ⟨h, rfl⟩ | ⟨h, rfl⟩
  · exact Int.compare_eq_lt.2 h
  · exact Int.compare_eq_eq.2 h
  · exact Int.compare_eq_gt.2 h
/-- Two pairs of numbers that stand alike compare alike. -/
theorem cmp_alike {a b c d : Int} (h1 : c < d → a < b) (h2 : c = d → a = b) (h3 : d < c → b < a) : compare a b = compare c d := by
  rcases Int.lt_trichotomy c d with h | h | h
  · rw [Int.compare_eq_lt.2 h, Int.compare_eq_lt.2 (h1 h)]
  · rw [Int.compare_eq_eq.2 h, Int.compare_eq_eq.2 (h2 h)]
  · rw [Int.compare_eq_gt.2 h, Int.compare_eq_gt.2 (h3 h)]

theorem signed_shift (s : Bool) (m k j : Nat) : Ieee.signed s m k * 2 ^ j = Ieee.signed s (m * 2 ^ (k + j)) 0 := by
  unfold Ieee.signed
  rw [Nat.shiftLeft_eq, Nat.shiftLeft_eq, Nat.pow_add]
  cases s <;> simp [Int.mul_assoc, Int.neg_mul]

theorem cmp_scale {a b p : Int} (h : 0 < p) : compare (a * p) (b * p) = compare a b := by
  refine cmp_alike (fun g => Int.mul_lt_mul_of_pos_right g h) (fun g => by rw [g]) (fun g => Int.mul_lt_mul_of_pos_right g h)

/-- The place of a rung32 above the least one, and its magnitude there. -/
def plc32 (r : Nat) : Nat := r / 8388608 - 1
def mag32 (r : Nat) : Nat := r - plc32 r * 8388608
def val32 (r : Nat) : Nat := mag32 r * 2 ^ plc32 r

theorem mag_lt32 (r : Nat) : mag32 r < 16777216 := by unfold mag32 plc32; omega
theorem mag_ge32 {r : Nat} (h : 0 < plc32 r) : 8388608 ≤ mag32 r := by unfold mag32; unfold plc32 at h ⊢; omega
theorem val_mono32 {r s : Nat} (h : r < s) : val32 r < val32 s := by
  have hk : plc32 r ≤ plc32 s := by
    have : r / 8388608 ≤ s / 8388608 := Nat.div_le_div_right (Nat.le_of_lt h)
    unfold plc32; omega
  rcases Nat.lt_or_ge (plc32 r) (plc32 s) with hlt | hge
  · obtain ⟨d, hd⟩ : ∃ d, plc32 s = plc32 r + 1 + d := ⟨plc32 s - plc32 r - 1, by omega⟩
    have h1 : val32 r < 16777216 * 2 ^ plc32 r := by unfold val32; exact Nat.mul_lt_mul_of_pos_right (mag_lt32 r) (Nat.two_pow_pos _)
    have h2 : 8388608 * 2 ^ plc32 s ≤ val32 s := by unfold val32; exact Nat.mul_le_mul_right _ (mag_ge32 (by omega))
    have h3 : 16777216 * 2 ^ plc32 r ≤ 8388608 * 2 ^ plc32 s := by
      rw [hd, Nat.pow_add, Nat.pow_succ]
      have : 1 ≤ 2 ^ d := Nat.two_pow_pos d
      have h4 : 16777216 * 2 ^ plc32 r * 1 ≤ 16777216 * 2 ^ plc32 r * 2 ^ d := Nat.mul_le_mul_left _ this
      have h5 : 8388608 * (2 ^ plc32 r * 2 * 2 ^ d) = 16777216 * 2 ^ plc32 r * 2 ^ d := by
        rw [← Nat.mul_assoc, ← Nat.mul_assoc, Nat.mul_right_comm 8388608 _ 2]
      omega
    omega
  · have e : plc32 r = plc32 s := by omega
    unfold val32
    rw [← e]
    refine Nat.mul_lt_mul_of_pos_right ?_ (Nat.two_pow_pos _)
    have b1 : plc32 r * 8388608 ≤ r := by unfold plc32; omega
    unfold mag32; rw [← e]; omega
theorem val_zero32 : val32 0 = 0 := by decide

/-- The sign bit of a word and its rung32. -/
def sgn32 (x : Nat) : Bool := x / 2147483648 % 2 == 1
def rung32 (x : Nat) : Nat := x % 2147483648
/-- The signed rung32. -/
def srung32 (x : Nat) : Int := if sgn32 x = true then -(rung32 x : Int) else rung32 x


theorem read_fin32 {x : Nat} (h : rung32 x < 2139095040) : Ieee.single.read x = .number (sgn32 x) (mag32 (rung32 x)) (-149 + (plc32 (rung32 x) : Int)) := by
  unfold Ieee.Format.read
  rw [sign32, binade32, inf32, least32]
  show (if rung32 x < 8388608 then Ieee.Datum.number (sgn32 x) (rung32 x) (-149) else if rung32 x < 2139095040 then _ else _) = _
  by_cases c : rung32 x < 8388608
  · rw [if_pos c]
    have e1 : plc32 (rung32 x) = 0 := by unfold plc32; omega
    have e2 : mag32 (rung32 x) = rung32 x := by unfold mag32; rw [e1]; omega
    rw [e1, e2]; rfl
  · rw [if_neg c, if_pos h]
    have e2 : 8388608 + rung32 x % 8388608 = mag32 (rung32 x) := by unfold mag32 plc32; omega
    show Ieee.Datum.number (sgn32 x) (8388608 + rung32 x % 8388608) (-149 + ((rung32 x / 8388608 - 1 : Nat) : Int)) = _
    rw [e2]; rfl
theorem read_inf32 {x : Nat} (h : rung32 x = 2139095040) : Ieee.single.read x = .infinity (sgn32 x) := by
  unfold Ieee.Format.read
  rw [sign32, binade32, inf32, least32]
  show (if rung32 x < 8388608 then _ else if rung32 x < 2139095040 then _ else if rung32 x = 2139095040 then Ieee.Datum.infinity (sgn32 x) else _) = _
  rw [if_neg (by omega), if_neg (by omega), if_pos h]
theorem read_nan32 {x : Nat} (h : 2139095040 < rung32 x) : Ieee.single.read x = .nan (sgn32 x) (rung32 x - 2139095040) := by
  unfold Ieee.Format.read
  rw [sign32, binade32, inf32, least32]
  show (if rung32 x < 8388608 then _ else if rung32 x < 2139095040 then _ else if rung32 x = 2139095040 then _ else Ieee.Datum.nan (sgn32 x) (rung32 x - 2139095040)) = _
  rw [if_neg (by omega), if_neg (by omega), if_neg (by omega)]

/-- The signed value in units of the least place. -/
def sval32 (x : Nat) : Int := if sgn32 x = true then -(val32 (rung32 x) : Int) else val32 (rung32 x)
theorem val_inj_lt32 {r s : Nat} : val32 r < val32 s ↔ r < s := by
  constructor
  · intro h
    rcases Nat.lt_trichotomy r s with g | g | g
    · exact g
    · subst g; omega
    · have := val_mono32 g; omega
  · exact val_mono32
theorem val_pos32 {r : Nat} (h : 0 < r) : 0 < val32 r := by have := val_mono32 h; rw [val_zero32] at this; exact this
theorem sval_srung32 (x y : Nat) : compare (sval32 x) (sval32 y) = compare (srung32 x) (srung32 y) := by
  unfold sval32 srung32
  have l1 := @val_inj_lt32 (rung32 x) (rung32 y)
  have l2 := @val_inj_lt32 (rung32 y) (rung32 x)
  have z1 : 0 < rung32 x → 0 < val32 (rung32 x) := val_pos32
  have z2 : 0 < rung32 y → 0 < val32 (rung32 y) := val_pos32
  have z3 : rung32 x = 0 → val32 (rung32 x) = 0 := fun h => by rw [h]; exact val_zero32
  have z4 : rung32 y = 0 → val32 (rung32 y) = 0 := fun h => by rw [h]; exact val_zero32
  have z5 : rung32 x = rung32 y → val32 (rung32 x) = val32 (rung32 y) := fun h => by rw [h]
  generalize val32 (rung32 x) = vx at *
  generalize val32 (rung32 y) = vy at *
  generalize rung32 x = rx at *
  generalize rung32 y = ry at *
  refine cmp_alike ?_ ?_ ?_ <;> split <;> split <;> omega

theorem order_fin32 {x y : Nat} (hx : rung32 x < 2139095040) (hy : rung32 y < 2139095040) : Ieee.single.order x y = some (compare (srung32 x) (srung32 y)) := by
  unfold Ieee.Format.order
  rw [read_fin32 hx, read_fin32 hy]
  show some (compare (Ieee.signed (sgn32 x) (mag32 (rung32 x)) (-149 + (plc32 (rung32 x) : Int) - min (-149 + (plc32 (rung32 x) : Int)) (-149 + (plc32 (rung32 y) : Int))).toNat) (Ieee.signed (sgn32 y) (mag32 (rung32 y)) (-149 + (plc32 (rung32 y) : Int) - min (-149 + (plc32 (rung32 x) : Int)) (-149 + (plc32 (rung32 y) : Int))).toNat)) = _
  congr 1
  generalize hk : min (plc32 (rung32 x)) (plc32 (rung32 y)) = k
  have e1 : (-149 + (plc32 (rung32 x) : Int) - min (-149 + (plc32 (rung32 x) : Int)) (-149 + (plc32 (rung32 y) : Int))).toNat = plc32 (rung32 x) - k := by omega
  have e2 : (-149 + (plc32 (rung32 y) : Int) - min (-149 + (plc32 (rung32 x) : Int)) (-149 + (plc32 (rung32 y) : Int))).toNat = plc32 (rung32 y) - k := by omega
  rw [e1, e2, ← sval_srung32]
  have hp : (0 : Int) < 2 ^ k := Int.pow_pos (by decide)
  rw [← cmp_scale hp, signed_shift, signed_shift]
  rw [show plc32 (rung32 x) - k + k = plc32 (rung32 x) by omega, show plc32 (rung32 y) - k + k = plc32 (rung32 y) by omega]
  unfold Ieee.signed sval32 val32
  simp

theorem order_num32 {x y : Nat} (hx : rung32 x ≤ 2139095040) (hy : rung32 y ≤ 2139095040) : Ieee.single.order x y = some (compare (srung32 x) (srung32 y)) := by
  rcases Nat.lt_or_ge (rung32 x) 2139095040 with gx | gx
  · rcases Nat.lt_or_ge (rung32 y) 2139095040 with gy | gy
    · exact order_fin32 gx gy
    · unfold Ieee.Format.order
      rw [read_fin32 gx, read_inf32 (by omega)]
      show some (if sgn32 y = true then Ordering.gt else Ordering.lt) = _
      congr 1
      symm
      unfold srung32
      cases sgn32 x <;> cases sgn32 y <;> (refine cmp_of ?_; simp; omega)
  · rcases Nat.lt_or_ge (rung32 y) 2139095040 with gy | gy
    · unfold Ieee.Format.order
      rw [read_fin32 gy, read_inf32 (by omega)]
      show some (if sgn32 x = true then Ordering.lt else Ordering.gt) = _
      congr 1
      symm
      unfold srung32
      cases sgn32 x <;> cases sgn32 y <;> (refine cmp_of ?_; simp; omega)
    · unfold Ieee.Format.order
      have e1 : rung32 x = 2139095040 := by omega
      have e2 : rung32 y = 2139095040 := by omega
      rw [read_inf32 e1, read_inf32 e2]
      show some (compare (sgn32 y).toNat (sgn32 x).toNat) = _
      congr 1
      unfold srung32
      rw [e1, e2]
      cases sgn32 x <;> cases sgn32 y <;> rfl
/-- The place of a rung64 above the least one, and its magnitude there. -/
def plc64 (r : Nat) : Nat := r / 4503599627370496 - 1
def mag64 (r : Nat) : Nat := r - plc64 r * 4503599627370496
def val64 (r : Nat) : Nat := mag64 r * 2 ^ plc64 r

theorem mag_lt64 (r : Nat) : mag64 r < 9007199254740992 := by unfold mag64 plc64; omega
theorem mag_ge64 {r : Nat} (h : 0 < plc64 r) : 4503599627370496 ≤ mag64 r := by unfold mag64; unfold plc64 at h ⊢; omega
theorem val_mono64 {r s : Nat} (h : r < s) : val64 r < val64 s := by
  have hk : plc64 r ≤ plc64 s := by
    have : r / 4503599627370496 ≤ s / 4503599627370496 := Nat.div_le_div_right (Nat.le_of_lt h)
    unfold plc64; omega
  rcases Nat.lt_or_ge (plc64 r) (plc64 s) with hlt | hge
  · obtain ⟨d, hd⟩ : ∃ d, plc64 s = plc64 r + 1 + d := ⟨plc64 s - plc64 r - 1, by omega⟩
    have h1 : val64 r < 9007199254740992 * 2 ^ plc64 r := by unfold val64; exact Nat.mul_lt_mul_of_pos_right (mag_lt64 r) (Nat.two_pow_pos _)
    have h2 : 4503599627370496 * 2 ^ plc64 s ≤ val64 s := by unfold val64; exact Nat.mul_le_mul_right _ (mag_ge64 (by omega))
    have h3 : 9007199254740992 * 2 ^ plc64 r ≤ 4503599627370496 * 2 ^ plc64 s := by
      rw [hd, Nat.pow_add, Nat.pow_succ]
      have : 1 ≤ 2 ^ d := Nat.two_pow_pos d
      have h4 : 9007199254740992 * 2 ^ plc64 r * 1 ≤ 9007199254740992 * 2 ^ plc64 r * 2 ^ d := Nat.mul_le_mul_left _ this
      have h5 : 4503599627370496 * (2 ^ plc64 r * 2 * 2 ^ d) = 9007199254740992 * 2 ^ plc64 r * 2 ^ d := by
        rw [← Nat.mul_assoc, ← Nat.mul_assoc, Nat.mul_right_comm 4503599627370496 _ 2]
      omega
    omega
  · have e : plc64 r = plc64 s := by omega
    unfold val64
    rw [← e]
    refine Nat.mul_lt_mul_of_pos_right ?_ (Nat.two_pow_pos _)
    have b1 : plc64 r * 4503599627370496 ≤ r := by unfold plc64; omega
    unfold mag64; rw [← e]; omega
theorem val_zero64 : val64 0 = 0 := by decide

/-- The sign bit of a word and its rung64. -/
def sgn64 (x : Nat) : Bool := x / 9223372036854775808 % 2 == 1
def rung64 (x : Nat) : Nat := x % 9223372036854775808
/-- The signed rung64. -/
def srung64 (x : Nat) : Int := if sgn64 x = true then -(rung64 x : Int) else rung64 x


theorem read_fin64 {x : Nat} (h : rung64 x < 9218868437227405312) : Ieee.double.read x = .number (sgn64 x) (mag64 (rung64 x)) (-1074 + (plc64 (rung64 x) : Int)) := by
  unfold Ieee.Format.read
  rw [sign64, binade64, inf64, least64]
  show (if rung64 x < 4503599627370496 then Ieee.Datum.number (sgn64 x) (rung64 x) (-1074) else if rung64 x < 9218868437227405312 then _ else _) = _
  by_cases c : rung64 x < 4503599627370496
  · rw [if_pos c]
    have e1 : plc64 (rung64 x) = 0 := by unfold plc64; omega
    have e2 : mag64 (rung64 x) = rung64 x := by unfold mag64; rw [e1]; omega
    rw [e1, e2]; rfl
  · rw [if_neg c, if_pos h]
    have e2 : 4503599627370496 + rung64 x % 4503599627370496 = mag64 (rung64 x) := by unfold mag64 plc64; omega
    show Ieee.Datum.number (sgn64 x) (4503599627370496 + rung64 x % 4503599627370496) (-1074 + ((rung64 x / 4503599627370496 - 1 : Nat) : Int)) = _
    rw [e2]; rfl
theorem read_inf64 {x : Nat} (h : rung64 x = 9218868437227405312) : Ieee.double.read x = .infinity (sgn64 x) := by
  unfold Ieee.Format.read
  rw [sign64, binade64, inf64, least64]
  show (if rung64 x < 4503599627370496 then _ else if rung64 x < 9218868437227405312 then _ else if rung64 x = 9218868437227405312 then Ieee.Datum.infinity (sgn64 x) else _) = _
  rw [if_neg (by omega), if_neg (by omega), if_pos h]
theorem read_nan64 {x : Nat} (h : 9218868437227405312 < rung64 x) : Ieee.double.read x = .nan (sgn64 x) (rung64 x - 9218868437227405312) := by
  unfold Ieee.Format.read
  rw [sign64, binade64, inf64, least64]
  show (if rung64 x < 4503599627370496 then _ else if rung64 x < 9218868437227405312 then _ else if rung64 x = 9218868437227405312 then _ else Ieee.Datum.nan (sgn64 x) (rung64 x - 9218868437227405312)) = _
  rw [if_neg (by omega), if_neg (by omega), if_neg (by omega)]

/-- The signed value in units of the least place. -/
def sval64 (x : Nat) : Int := if sgn64 x = true then -(val64 (rung64 x) : Int) else val64 (rung64 x)
theorem val_inj_lt64 {r s : Nat} : val64 r < val64 s ↔ r < s := by
  constructor
  · intro h
    rcases Nat.lt_trichotomy r s with g | g | g
    · exact g
    · subst g; omega
    · have := val_mono64 g; omega
  · exact val_mono64
theorem val_pos64 {r : Nat} (h : 0 < r) : 0 < val64 r := by have := val_mono64 h; rw [val_zero64] at this; exact this
theorem sval_srung64 (x y : Nat) : compare (sval64 x) (sval64 y) = compare (srung64 x) (srung64 y) := by
  unfold sval64 srung64
  have l1 := @val_inj_lt64 (rung64 x) (rung64 y)
  have l2 := @val_inj_lt64 (rung64 y) (rung64 x)
  have z1 : 0 < rung64 x → 0 < val64 (rung64 x) := val_pos64
  have z2 : 0 < rung64 y → 0 < val64 (rung64 y) := val_pos64
  have z3 : rung64 x = 0 → val64 (rung64 x) = 0 := fun h => by rw [h]; exact val_zero64
  have z4 : rung64 y = 0 → val64 (rung64 y) = 0 := fun h => by rw [h]; exact val_zero64
  have z5 : rung64 x = rung64 y → val64 (rung64 x) = val64 (rung64 y) := fun h => by rw [h]
  generalize val64 (rung64 x) = vx at *
  generalize val64 (rung64 y) = vy at *
  generalize rung64 x = rx at *
  generalize rung64 y = ry at *
  refine cmp_alike ?_ ?_ ?_ <;> split <;> split <;> omega

theorem order_fin64 {x y : Nat} (hx : rung64 x < 9218868437227405312) (hy : rung64 y < 9218868437227405312) : Ieee.double.order x y = some (compare (srung64 x) (srung64 y)) := by
  unfold Ieee.Format.order
  rw [read_fin64 hx, read_fin64 hy]
  show some (compare (Ieee.signed (sgn64 x) (mag64 (rung64 x)) (-1074 + (plc64 (rung64 x) : Int) - min (-1074 + (plc64 (rung64 x) : Int)) (-1074 + (plc64 (rung64 y) : Int))).toNat) (Ieee.signed (sgn64 y) (mag64 (rung64 y)) (-1074 + (plc64 (rung64 y) : Int) - min (-1074 + (plc64 (rung64 x) : Int)) (-1074 + (plc64 (rung64 y) : Int))).toNat)) = _
  congr 1
  generalize hk : min (plc64 (rung64 x)) (plc64 (rung64 y)) = k
  have e1 : (-1074 + (plc64 (rung64 x) : Int) - min (-1074 + (plc64 (rung64 x) : Int)) (-1074 + (plc64 (rung64 y) : Int))).toNat = plc64 (rung64 x) - k := by omega
  have e2 : (-1074 + (plc64 (rung64 y) : Int) - min (-1074 + (plc64 (rung64 x) : Int)) (-1074 + (plc64 (rung64 y) : Int))).toNat = plc64 (rung64 y) - k := by omega
  rw [e1, e2, ← sval_srung64]
  have hp : (0 : Int) < 2 ^ k := Int.pow_pos (by decide)
  rw [← cmp_scale hp, signed_shift, signed_shift]
  rw [show plc64 (rung64 x) - k + k = plc64 (rung64 x) by omega, show plc64 (rung64 y) - k + k = plc64 (rung64 y) by omega]
  unfold Ieee.signed sval64 val64
  simp

theorem order_num64 {x y : Nat} (hx : rung64 x ≤ 9218868437227405312) (hy : rung64 y ≤ 9218868437227405312) : Ieee.double.order x y = some (compare (srung64 x) (srung64 y)) := by
  rcases Nat.lt_or_ge (rung64 x) 9218868437227405312 with gx | gx
  · rcases Nat.lt_or_ge (rung64 y) 9218868437227405312 with gy | gy
    · exact order_fin64 gx gy
    · unfold Ieee.Format.order
      rw [read_fin64 gx, read_inf64 (by omega)]
      show some (if sgn64 y = true then Ordering.gt else Ordering.lt) = _
      congr 1
      symm
      unfold srung64
      cases sgn64 x <;> cases sgn64 y <;> (refine cmp_of ?_; simp; omega)
  · rcases Nat.lt_or_ge (rung64 y) 9218868437227405312 with gy | gy
    · unfold Ieee.Format.order
      rw [read_fin64 gy, read_inf64 (by omega)]
      show some (if sgn64 x = true then Ordering.lt else Ordering.gt) = _
      congr 1
      symm
      unfold srung64
      cases sgn64 x <;> cases sgn64 y <;> (refine cmp_of ?_; simp; omega)
    · unfold Ieee.Format.order
      have e1 : rung64 x = 9218868437227405312 := by omega
      have e2 : rung64 y = 9218868437227405312 := by omega
      rw [read_inf64 e1, read_inf64 e2]
      show some (compare (sgn64 y).toNat (sgn64 x).toNat) = _
      congr 1
      unfold srung64
      rw [e1, e2]
      cases sgn64 x <;> cases sgn64 y <;> rfl
end Go.Proofs.YtieojgblamkgoaaGreatDoor
/- Plain facts: words of one form written in the other: what is too great, and what is not. -/
namespace Go.Proofs.YtieojgblamkgoaaGreatDoor
open Go.RowKit

theorem rung_word32 (f : Ieee.Format) (r : Nat) : rungOf f (mag32 r) (-149 + (plc32 r : Int)) = rungOf f (val32 r) (-149) := by
  unfold val32; rw [rung_scale]
theorem rung_word64 (f : Ieee.Format) (r : Nat) : rungOf f (mag64 r) (-1074 + (plc64 r : Int)) = rungOf f (val64 r) (-1074) := by
  unfold val64; rw [rung_scale]
theorem val_le32 {r s : Nat} (h : r ≤ s) : val32 r ≤ val32 s := by
  rcases Nat.lt_or_eq_of_le h with g | g
  · exact Nat.le_of_lt (val_mono32 g)
  · rw [g]; exact Nat.le_refl _
theorem val_le64 {r s : Nat} (h : r ≤ s) : val64 r ≤ val64 s := by
  rcases Nat.lt_or_eq_of_le h with g | g
  · exact Nat.le_of_lt (val_mono64 g)
  · rw [g]; exact Nat.le_refl _
theorem rung_le32 (f : Ieee.Format) {r s : Nat} (h : r ≤ s) : rungOf f (mag32 r) (-149 + (plc32 r : Int)) ≤ rungOf f (mag32 s) (-149 + (plc32 s : Int)) := by
  rw [rung_word32, rung_word32]; exact rung_mono f _ (val_le32 h)
theorem rung_le64 (f : Ieee.Format) {r s : Nat} (h : r ≤ s) : rungOf f (mag64 r) (-1074 + (plc64 r : Int)) ≤ rungOf f (mag64 s) (-1074 + (plc64 s : Int)) := by
  rw [rung_word64, rung_word64]; exact rung_mono f _ (val_le64 h)

theorem sgn_word32 (s : Bool) {r : Nat} (h : r < 2147483648) : sgn32 (Ieee.single.word s r) = s ∧ rung32 (Ieee.single.word s r) = r := by
  unfold sgn32 rung32; rw [word32]
  cases s
  · exact ⟨by rw [beq_eq_false_iff_ne]; simp; omega, by simp; omega⟩
  · exact ⟨by rw [beq_iff_eq]; simp; omega, by simp; omega⟩
theorem sgn_word64 (s : Bool) {r : Nat} (h : r < 9223372036854775808) : sgn64 (Ieee.double.word s r) = s ∧ rung64 (Ieee.double.word s r) = r := by
  unfold sgn64 rung64; rw [word64]
  cases s
  · exact ⟨by rw [beq_eq_false_iff_ne]; simp; omega, by simp; omega⟩
  · exact ⟨by rw [beq_iff_eq]; simp; omega, by simp; omega⟩
theorem word_of32 {a : Nat} (h : a < 4294967296) : a = Ieee.single.word (sgn32 a) (rung32 a) := by
  rw [word32]; unfold sgn32 rung32
  by_cases c : a / 2147483648 % 2 = 1
  · rw [beq_iff_eq.2 c]; simp; omega
  · rw [beq_eq_false_iff_ne.2 c]; simp; omega
theorem word_of64 {a : Nat} (h : a < 18446744073709551616) : a = Ieee.double.word (sgn64 a) (rung64 a) := by
  rw [word64]; unfold sgn64 rung64
  by_cases c : a / 9223372036854775808 % 2 = 1
  · rw [beq_iff_eq.2 c]; simp; omega
  · rw [beq_eq_false_iff_ne.2 c]; simp; omega

theorem nanN_rung (a : Nat) : nanN a = decide (2139095040 < rung32 a) := rfl
theorem nan64_rung (a : Nat) : nan64 a = decide (9218868437227405312 < rung64 a) := rfl

/-- A finite sample, made wide, is finite. -/
theorem wide_lt {a : Nat} (h : rung32 a < 2139095040) : rungOf Ieee.double (mag32 (rung32 a)) (-149 + (plc32 (rung32 a) : Int)) < 9218868437227405312 := by
  have h1 := rung_le32 Ieee.double (r := rung32 a) (s := 2139095039) (by omega)
  have h2 : rungOf Ieee.double (mag32 2139095039) (-149 + (plc32 2139095039 : Int)) < 9218868437227405312 := by decide +kernel
  omega
/-- A sample that is no NaN, as a word of 64 bits. -/
def wideN (a : Nat) : Nat := Ieee.double.write (Ieee.single.read a)
theorem wide_conv {a : Nat} (h : nanN a = false) : floatToFloatBits .f32 a .f64 = some (wideN a) := by
  rw [nanN_rung] at h
  have h := of_decide_eq_false h
  unfold floatToFloatBits
  rw [if_neg (by decide)]
  have e : FloatKind.f32.decode a = Ieee.single.read a := rfl
  rw [e]
  rcases Nat.lt_or_ge (rung32 a) 2139095040 with g | g
  · unfold wideN
    rw [read_fin32 g]
    dsimp only
    have e2 : FloatKind.f64.encode (.number (sgn32 a) (mag32 (rung32 a)) (-149 + (plc32 (rung32 a) : Int))) = Ieee.double.word (sgn32 a) (rungOf Ieee.double (mag32 (rung32 a)) (-149 + (plc32 (rung32 a) : Int))) := nearest_rung _ _ _ _
    have e3 : Ieee.double.write (.number (sgn32 a) (mag32 (rung32 a)) (-149 + (plc32 (rung32 a) : Int))) = Ieee.double.word (sgn32 a) (rungOf Ieee.double (mag32 (rung32 a)) (-149 + (plc32 (rung32 a) : Int))) := nearest_rung _ _ _ _
    rw [e2, e3]
    have hw := wide_lt g
    obtain ⟨s1, s2⟩ := sgn_word64 (sgn32 a) (r := rungOf Ieee.double (mag32 (rung32 a)) (-149 + (plc32 (rung32 a) : Int))) (by omega)
    have e4 : FloatKind.f64.decode (Ieee.double.word (sgn32 a) (rungOf Ieee.double (mag32 (rung32 a)) (-149 + (plc32 (rung32 a) : Int)))) = .number _ _ _ := read_fin64 (by rw [s2]; exact hw)
    rw [e4]; rfl
  · unfold wideN
    rw [read_inf32 (by omega)]
    rfl

/-- From the bound on a number is an infinity; below it, it is none. -/
theorem nar_hi {r : Nat} (h : 5183643170835005440 ≤ r) : rungOf Ieee.single (mag64 r) (-1074 + (plc64 r : Int)) = 2139095040 := by
  have h1 := rung_le64 Ieee.single h
  have h2 : rungOf Ieee.single (mag64 5183643170835005440) (-1074 + (plc64 5183643170835005440 : Int)) = 2139095040 := by decide +kernel
  have h3 := rungOf_le Ieee.single (mag64 r) (-1074 + (plc64 r : Int))
  rw [inf32] at h3
  omega
theorem nar_lo {r : Nat} (h : r < 5183643170835005440) : rungOf Ieee.single (mag64 r) (-1074 + (plc64 r : Int)) < 2139095040 := by
  have h1 := rung_le64 Ieee.single (r := r) (s := 5183643170835005439) (by omega)
  have h2 : rungOf Ieee.single (mag64 5183643170835005439) (-1074 + (plc64 5183643170835005439 : Int)) < 2139095040 := by decide +kernel
  omega
theorem nar_conv {x : Nat} (h : rung64 x < 5183643170835005440) : floatToFloatBits .f64 x .f32 = some (Ieee.single.write (Ieee.double.read x)) := by
  unfold floatToFloatBits
  rw [if_neg (by decide)]
  have e : FloatKind.f64.decode x = Ieee.double.read x := rfl
  rw [e, read_fin64 (by omega)]
  dsimp only
  have e2 : FloatKind.f32.encode (.number (sgn64 x) (mag64 (rung64 x)) (-1074 + (plc64 (rung64 x) : Int))) = Ieee.single.word (sgn64 x) (rungOf Ieee.single (mag64 (rung64 x)) (-1074 + (plc64 (rung64 x) : Int))) := nearest_rung _ _ _ _
  have e3 : Ieee.single.write (.number (sgn64 x) (mag64 (rung64 x)) (-1074 + (plc64 (rung64 x) : Int))) = Ieee.single.word (sgn64 x) (rungOf Ieee.single (mag64 (rung64 x)) (-1074 + (plc64 (rung64 x) : Int))) := nearest_rung _ _ _ _
  rw [e2, e3]
  have hw := nar_lo h
  obtain ⟨s1, s2⟩ := sgn_word32 (sgn64 x) (r := rungOf Ieee.single (mag64 (rung64 x)) (-1074 + (plc64 (rung64 x) : Int))) (by omega)
  have e4 : FloatKind.f32.decode (Ieee.single.word (sgn64 x) (rungOf Ieee.single (mag64 (rung64 x)) (-1074 + (plc64 (rung64 x) : Int)))) = .number _ _ _ := read_fin32 (by rw [s2]; exact hw)
  rw [e4]; rfl
/-- What is too great. -/
theorem nar_big {x : Nat} (h : 5183643170835005440 ≤ rung64 x) (hn : nan64 x = false) : toldD (some (Ieee.double.read x)) = Ieee.single.word (sgn64 x) 2139095040 := by
  rw [nan64_rung] at hn
  have hn := of_decide_eq_false hn
  rcases Nat.lt_or_ge (rung64 x) 9218868437227405312 with g | g
  · rw [read_fin64 g]
    show Ieee.single.nearest _ _ _ = _
    rw [nearest_rung, nar_hi h]
  · rw [read_inf64 (by omega)]
    show Ieee.single.word _ Ieee.single.infRung = _
    rw [inf32]
theorem nar_nan {x : Nat} (h : nan64 x = true) : toldD (some (Ieee.double.read x)) = 2143289344 := by
  obtain ⟨s, t, e⟩ := isNaN_cases (read64_nan h)
  rw [e]; rfl

theorem cmp_ge (a b : Int) : (some (compare a b) == some Ordering.gt || some (compare a b) == some Ordering.eq) = decide (b ≤ a) := by
  rcases Int.lt_trichotomy a b with h | h | h
  · rw [Int.compare_eq_lt.2 h, decide_eq_false (by omega)]; rfl
  · rw [Int.compare_eq_eq.2 h, decide_eq_true (by omega)]; rfl
  · rw [Int.compare_eq_gt.2 h, decide_eq_true (by omega)]; rfl
theorem cmp_le (a b : Int) : (some (compare a b) == some Ordering.lt || some (compare a b) == some Ordering.eq) = decide (a ≤ b) := by
  rcases Int.lt_trichotomy a b with h | h | h
  · rw [Int.compare_eq_lt.2 h, decide_eq_true (by omega)]; rfl
  · rw [Int.compare_eq_eq.2 h, decide_eq_true (by omega)]; rfl
  · rw [Int.compare_eq_gt.2 h, decide_eq_false (by omega)]; rfl
theorem cmp_lt (a b : Int) : (some (compare a b) == some Ordering.lt) = decide (a < b) := by
  rcases Int.lt_trichotomy a b with h | h | h
  · rw [Int.compare_eq_lt.2 h, decide_eq_true h]; rfl
  · rw [Int.compare_eq_eq.2 h, decide_eq_false (by omega)]; rfl
  · rw [Int.compare_eq_gt.2 h, decide_eq_false (by omega)]; rfl
theorem cmp_eq (a b : Int) : (some (compare a b) == some Ordering.eq) = decide (a = b) := by
  rcases Int.lt_trichotomy a b with h | h | h
  · rw [Int.compare_eq_lt.2 h, decide_eq_false (by omega)]; rfl
  · rw [Int.compare_eq_eq.2 h, decide_eq_true h]; rfl
  · rw [Int.compare_eq_gt.2 h, decide_eq_false (by omega)]; rfl
end Go.Proofs.YtieojgblamkgoaaGreatDoor
