/- Plain facts on floats as words: what is told of a datum; words that are drawn; read and written words. -/
import Derived.Test.YtnjagokojdpgpabDoorG90bb58b6
import Derived.Test.YtnjagokojdpgpabDoorG06007283
import Derived.Laws.FloatArith
import Derived.Test.YtnjagokojdpgpabDoorG28d12016
import Derived.Test.YtnjagokojdpgpabDoorG9ed15b1b
namespace Go.Proofs.YtnjagokojdpgpabDoor
open Go.RowKit

/-- What is told of a datum, or of none. -/
def toldD (d : Option Ieee.Datum) : Nat := match d with
  | none => 2143289344
  | some (.nan ..) => 2143289344
  | some x => Ieee.single.write x

theorem rungOf_le (f : Ieee.Format) (m : Nat) (p : Int) : rungOf f m p ≤ f.infRung := by
  unfold rungOf; split
  · exact Nat.zero_le _
  · exact Nat.min_le_right ..
theorem sign32 : Ieee.single.signWeight = 2147483648 := by decide
theorem inf32 : Ieee.single.infRung = 2139095040 := by decide
theorem binade32 : Ieee.single.binade = 8388608 := by decide
theorem least32 : Ieee.single.leastPlace = -149 := by decide
theorem sign64 : Ieee.double.signWeight = 9223372036854775808 := by decide
theorem inf64 : Ieee.double.infRung = 9218868437227405312 := by decide
theorem binade64 : Ieee.double.binade = 4503599627370496 := by decide
theorem least64 : Ieee.double.leastPlace = -1074 := by decide
theorem word32 (s : Bool) (r : Nat) : Ieee.single.word s r = s.toNat * 2147483648 + r := by
  unfold Ieee.Format.word; rw [sign32]; cases s <;> simp
theorem word64 (s : Bool) (r : Nat) : Ieee.double.word s r = s.toNat * 9223372036854775808 + r := by
  unfold Ieee.Format.word; rw [sign64]; cases s <;> simp
theorem nanN_word {s : Bool} {r : Nat} (h : r ≤ 2139095040) : nanN (Ieee.single.word s r) = false := by
  unfold nanN; rw [word32]; have := Bool.toNat_lt s; exact decide_eq_false (by omega)
/-- Is a word of 64 bits a NaN? -/
def nan64 (a : Nat) : Bool := decide (9218868437227405312 < a % 9223372036854775808)
theorem nan64_word {s : Bool} {r : Nat} (h : r ≤ 9218868437227405312) : nan64 (Ieee.double.word s r) = false := by
  unfold nan64; rw [word64]; have := Bool.toNat_lt s; exact decide_eq_false (by omega)
theorem nanN_write {d : Ieee.Datum} (h : d.isNaN = false) : nanN (Ieee.single.write d) = false := by
  cases d with
  | nan s t => cases h
  | infinity s => exact nanN_word (by rw [inf32]; omega)
  | number s m p =>
    show nanN (Ieee.single.nearest s m p) = false
    rw [nearest_rung]
    exact nanN_word (by have := rungOf_le Ieee.single m p; rw [inf32] at this; exact this)
theorem nan64_write {d : Ieee.Datum} (h : d.isNaN = false) : nan64 (Ieee.double.write d) = false := by
  cases d with
  | nan s t => cases h
  | infinity s => exact nan64_word (by rw [inf64]; omega)
  | number s m p =>
    show nan64 (Ieee.double.nearest s m p) = false
    rw [nearest_rung]
    exact nan64_word (by have := rungOf_le Ieee.double m p; rw [inf64] at this; exact this)
theorem toldD_some {d : Ieee.Datum} (h : d.isNaN = false) : toldD (some d) = Ieee.single.write d := by
  cases d with
  | nan s t => cases h
  | infinity s => rfl
  | number s m p => rfl
theorem write32_lt (d : Ieee.Datum) : Ieee.single.write d < 4294967296 := Ieee.single.write_lt d
theorem write64_lt (d : Ieee.Datum) : Ieee.double.write d < 18446744073709551616 := Ieee.double.write_lt d
theorem toldD_lt (d : Option Ieee.Datum) : toldD d < 4294967296 := by
  unfold toldD; split
  · omega
  · omega
  · exact write32_lt _

theorem sum_num {a b d : Ieee.Datum} (h : a.sum b = some d) : d.isNaN = false := by
  cases a <;> cases b <;> simp only [Ieee.Datum.sum] at h
  all_goals first | (cases h; done) | (cases h; rfl) | (split at h <;> first | (cases h; done) | (cases h; rfl))
theorem product_num {a b d : Ieee.Datum} (h : a.product b = some d) : d.isNaN = false := by
  cases a <;> cases b <;> simp only [Ieee.Datum.product] at h
  all_goals first | (cases h; done) | (cases h; rfl) | (split at h <;> first | (cases h; done) | (cases h; rfl))
theorem quotient_num {k : Nat} {a b d : Ieee.Datum} (h : a.quotient k b = some d) : d.isNaN = false := by
  cases a <;> cases b <;> simp only [Ieee.Datum.quotient] at h
  all_goals first | (cases h; done) | (cases h; rfl) | (split at h <;> first | (cases h; done) | (cases h; rfl) | (split at h <;> first | (cases h; done) | (cases h; rfl)))
theorem root_num {k : Nat} {a d : Ieee.Datum} (h : a.root k = some d) : d.isNaN = false := by
  cases a <;> simp only [Ieee.Datum.root] at h
  all_goals first | (cases h; done) | (cases h; rfl) | (split at h <;> first | (cases h; done) | (cases h; rfl) | (split at h <;> first | (cases h; done) | (cases h; rfl)))

theorem read32_nan {a : Nat} (h : nanN a = true) : (Ieee.single.read a).isNaN = true := by
  unfold nanN at h
  have h := of_decide_eq_true h
  unfold Ieee.Format.read
  rw [sign32, binade32, inf32, least32]
  dsimp only
  rw [if_neg (by omega), if_neg (by omega), if_neg (by omega)]
  rfl
theorem read32_num {a : Nat} (h : nanN a = false) : (Ieee.single.read a).isNaN = false := by
  unfold nanN at h
  have h := of_decide_eq_false h
  unfold Ieee.Format.read
  rw [sign32, binade32, inf32, least32]
  dsimp only
  split
  · rfl
  · split
    · rfl
    · rw [if_pos (by omega)]; rfl
theorem read64_nan {a : Nat} (h : nan64 a = true) : (Ieee.double.read a).isNaN = true := by
  unfold nan64 at h
  have h := of_decide_eq_true h
  unfold Ieee.Format.read
  rw [sign64, binade64, inf64, least64]
  dsimp only
  rw [if_neg (by omega), if_neg (by omega), if_neg (by omega)]
  rfl
theorem read64_num {a : Nat} (h : nan64 a = false) : (Ieee.double.read a).isNaN = false := by
  unfold nan64 at h
  have h := of_decide_eq_false h
  unfold Ieee.Format.read
  rw [sign64, binade64, inf64, least64]
  dsimp only
  split
  · rfl
  · split
    · rfl
    · rw [if_pos (by omega)]; rfl
theorem isNaN_cases {d : Ieee.Datum} (h : d.isNaN = true) : ∃ s t, d = .nan s t := by
  cases d with
  | nan s t => exact ⟨s, t, rfl⟩
  | infinity s => cases h
  | number s m p => cases h
theorem order_nan1 {f : Ieee.Format} {x : Nat} (y : Nat) (h : (f.read x).isNaN = true) : f.order x y = none := by
  obtain ⟨s, t, e⟩ := isNaN_cases h
  unfold Ieee.Format.order; rw [e]; cases f.read y <;> rfl
theorem order_nan2 {f : Ieee.Format} {y : Nat} (x : Nat) (h : (f.read y).isNaN = true) : f.order x y = none := by
  obtain ⟨s, t, e⟩ := isNaN_cases h
  unfold Ieee.Format.order; rw [e]; cases f.read x <;> rfl

/-- The word that is drawn where an operation has no answer. -/
def nanw (k : FloatKind) (x y : Nat) (w : World) : Nat := (Question.nanBits k x y).cut (w.tape w.drawn (.nanBits k x y))
theorem nanw32 (x y : Nat) (w : World) : nanN (nanw .f32 x y w) = true ∧ nanw .f32 x y w < 4294967296 := by
  unfold nanw
  generalize w.tape w.drawn (.nanBits .f32 x y) = t
  have e : (Question.nanBits .f32 x y).cut t = (t % 2) * 2147483648 + 2139095040 + 1 + (t / 2) % 8388607 := rfl
  rw [e]
  have hz : (t / 2) % 8388607 < 8388607 := Nat.mod_lt _ (by decide)
  have ha : t % 2 < 2 := Nat.mod_lt _ (by decide)
  clear e
  generalize (t / 2) % 8388607 = z at hz
  generalize t % 2 = a at ha
  unfold nanN
  exact ⟨decide_eq_true (by omega), by omega⟩
theorem nanw64 (x y : Nat) (w : World) : nan64 (nanw .f64 x y w) = true ∧ nanw .f64 x y w < 18446744073709551616 := by
  unfold nanw
  generalize w.tape w.drawn (.nanBits .f64 x y) = t
  have e : (Question.nanBits .f64 x y).cut t = (t % 2) * 9223372036854775808 + 9218868437227405312 + 1 + (t / 2) % 4503599627370495 := rfl
  rw [e]
  have hz : (t / 2) % 4503599627370495 < 4503599627370495 := Nat.mod_lt _ (by decide)
  have ha : t % 2 < 2 := Nat.mod_lt _ (by decide)
  clear e
  generalize (t / 2) % 4503599627370495 = z at hz
  generalize t % 2 = a at ha
  unfold nan64
  exact ⟨decide_eq_true (by omega), by omega⟩
theorem run_arith_none (op : BinOp) (hop : op = .add ∨ op = .sub ∨ op = .mul ∨ op = .quo) (t : TypeId) (k : FloatKind) (x y : Nat) (h : floatBits op k x y = none) (P : Program) (w : World) :
    (binOp op t (.float k x) (.float k y)).run P w = .ok (.float k (nanw k x y w)) w.drew := by
  unfold floatBits at h
  rcases hop with rfl | rfl | rfl | rfl
  all_goals
    simp only at h
    simp [binOp, Op.floatArith, h, nanw, Question.forced]
/-- The word that is drawn of a NaN that is made wide or narrow. -/
def nanc (k : FloatKind) (b : Nat) (w : World) : Nat := (Question.nanConv k b).cut (w.tape w.drawn (.nanConv k b))
theorem nanc32 (b : Nat) (w : World) : nanN (nanc .f32 b w) = true ∧ nanc .f32 b w < 4294967296 := by
  unfold nanc
  generalize w.tape w.drawn (.nanConv .f32 b) = t
  have e : (Question.nanConv .f32 b).cut t = (t % 2) * 2147483648 + 2139095040 + 1 + (t / 2) % 8388607 := rfl
  rw [e]
  have hz : (t / 2) % 8388607 < 8388607 := Nat.mod_lt _ (by decide)
  have ha : t % 2 < 2 := Nat.mod_lt _ (by decide)
  clear e
  generalize (t / 2) % 8388607 = z at hz
  generalize t % 2 = a at ha
  unfold nanN
  exact ⟨decide_eq_true (by omega), by omega⟩
theorem nanc64 (b : Nat) (w : World) : nan64 (nanc .f64 b w) = true ∧ nanc .f64 b w < 18446744073709551616 := by
  unfold nanc
  generalize w.tape w.drawn (.nanConv .f64 b) = t
  have e : (Question.nanConv .f64 b).cut t = (t % 2) * 9223372036854775808 + 9218868437227405312 + 1 + (t / 2) % 4503599627370495 := rfl
  rw [e]
  have hz : (t / 2) % 4503599627370495 < 4503599627370495 := Nat.mod_lt _ (by decide)
  have ha : t % 2 < 2 := Nat.mod_lt _ (by decide)
  clear e
  generalize (t / 2) % 4503599627370495 = z at hz
  generalize t % 2 = a at ha
  unfold nan64
  exact ⟨decide_eq_true (by omega), by omega⟩
theorem run_conv_nan {P : Program} (src dst : TypeId) (s k : FloatKind) (b : Nat) (ne : s ≠ k) (hs : (P.underlying src).isSome = true) (hd : P.underlying dst = some (.float k)) (h : (s.format.read b).isNaN = true) (w : World) :
    (convert src dst (.float s b)).run P w = .ok (.float k (nanc k b w)) w.drew := by
  obtain ⟨u, hs'⟩ := Option.isSome_iff_exists.1 hs
  obtain ⟨sg, t, e⟩ := isNaN_cases h
  have e' : s.decode b = .nan sg t := e
  cases u <;> simp [convert, run_underlying hs', run_underlying hd, Conv.floatToFloat, ne, e', nanc, Question.forced]
end Go.Proofs.YtnjagokojdpgpabDoor
/- Plain facts: the reference's exact sums and products, rounded, are those of the model's arithmetic. -/
namespace Go.Proofs.YtnjagokojdpgpabDoor
open Go.RowKit

/-- A datum as a number of the reference. -/
def datumR : Ieee.Datum → RNum
  | .nan .. => .nan
  | .infinity s => .inf s
  | .number s m p => .fin s m p false
theorem numOf_datum (f : Ieee.Format) (b : Nat) : numOf f b = datumR (f.read b) := by
  unfold numOf datumR; cases f.read b <;> rfl

theorem roundR_fin (s : Bool) (n : Nat) (e : Int) : roundR (.fin s n e false) = Ieee.single.nearest s n e := by
  show Ieee.single.word s (rungOf Ieee.single (2 * n + 0) (e - 1)) = _
  rw [nearest_rung, Nat.add_zero]
  have := rung_scale Ieee.single n 1 (e - 1)
  rw [Nat.pow_one, Nat.mul_comm n 2] at this
  rw [this, show e - 1 + ((1 : Nat) : Int) = e by omega]

theorem plusFin_sum (s t : Bool) (X Y : Nat) (b : Int) :
    roundR (plusFin s t X Y b) = Ieee.single.nearest (if (if s = true then -(X : Int) else X) + (if t = true then -(Y : Int) else Y) = 0 then s && t else decide ((if s = true then -(X : Int) else X) + (if t = true then -(Y : Int) else Y) < 0))
      ((if s = true then -(X : Int) else X) + (if t = true then -(Y : Int) else Y)).natAbs b := by
  unfold plusFin
  by_cases h : s = t
  · subst h
    rw [if_pos rfl, roundR_fin]
    cases s
    · simp only [Bool.false_eq_true, if_false]
      have e1 : ((X : Int) + (Y : Int)).natAbs = X + Y := by omega
      rw [e1]
      by_cases h0 : (X : Int) + (Y : Int) = 0
      · rw [if_pos h0]; rfl
      · rw [if_neg h0, decide_eq_false (by omega)]
    · simp only [if_true]
      have e1 : (-(X : Int) + -(Y : Int)).natAbs = X + Y := by omega
      rw [e1]
      by_cases h0 : -(X : Int) + -(Y : Int) = 0
      · rw [if_pos h0]; rfl
      · rw [if_neg h0, decide_eq_true (by omega)]
  · rw [if_neg h]
    cases s <;> cases t <;> simp only [Bool.false_eq_true, if_false, if_true]
    · exact absurd rfl h
    · by_cases hxy : X = Y
      · rw [if_pos hxy, roundR_fin, if_pos (by omega : (X : Int) + -(Y : Int) = 0)]
        congr 1; omega
      · rw [if_neg hxy]
        by_cases hlt : Y < X
        · rw [if_pos hlt, roundR_fin, if_neg (by omega : ¬ (X : Int) + -(Y : Int) = 0), decide_eq_false (by omega)]
          congr 1; omega
        · rw [if_neg hlt, roundR_fin, if_neg (by omega : ¬ (X : Int) + -(Y : Int) = 0), decide_eq_true (by omega)]
          congr 1; omega
    · by_cases hxy : X = Y
      · rw [if_pos hxy, roundR_fin, if_pos (by omega : -(X : Int) + (Y : Int) = 0)]
        congr 1; omega
      · rw [if_neg hxy]
        by_cases hlt : Y < X
        · rw [if_pos hlt, roundR_fin, if_neg (by omega : ¬ -(X : Int) + (Y : Int) = 0), decide_eq_true (by omega)]
          congr 1; omega
        · rw [if_neg hlt, roundR_fin, if_neg (by omega : ¬ -(X : Int) + (Y : Int) = 0), decide_eq_false (by omega)]
          congr 1; omega
    · exact absurd rfl h

theorem signed_eq (s : Bool) (m k : Nat) : Ieee.signed s m k = if s = true then -((m * 2 ^ k : Nat) : Int) else ((m * 2 ^ k : Nat) : Int) := by
  unfold Ieee.signed; rw [Nat.shiftLeft_eq]

/-- Sums. -/
theorem plus_link (d d' : Ieee.Datum) : roundR (plusR (datumR d) (datumR d')) = toldD (d.sum d') := by
  cases d with
  | nan s t => cases d' <;> rfl
  | infinity s =>
    cases d' with
    | nan t f => rfl
    | infinity t =>
      show roundR (if s = t then .inf s else .nan) = toldD (if s = t then some (.infinity s) else none)
      by_cases h : s = t
      · rw [if_pos h, if_pos h]; show Ieee.single.word s 2139095040 = Ieee.single.word s Ieee.single.infRung; rw [single_inf]
      · rw [if_neg h, if_neg h]; rfl
    | number t n j => show Ieee.single.word s 2139095040 = Ieee.single.word s Ieee.single.infRung; rw [single_inf]
  | number s m i =>
    cases d' with
    | nan t f => rfl
    | infinity t => show Ieee.single.word t 2139095040 = Ieee.single.word t Ieee.single.infRung; rw [single_inf]
    | number t n j =>
      show roundR (plusFin s t (m * 2 ^ (i - min i j).toNat) (n * 2 ^ (j - min i j).toNat) (min i j)) = Ieee.single.nearest _ _ _
      rw [plusFin_sum, signed_eq, signed_eq]
end Go.Proofs.YtnjagokojdpgpabDoor
/- What the reference's Mul, Fma and Sub return of whatever samples: the exact number, rounded. -/
namespace Go.Proofs.YtnjagokojdpgpabDoor
open Go.RowKit

/-- Numbers of a few hundred digits at most. -/
def few : RNum → Prop
  | ⟨some (.inr (_, n, e, m))⟩ => blen n ≤ 500 ∧ -500 ≤ e ∧ e ≤ 500 ∧ m = false
  | _ => True
theorem few_mid {x : RNum} (h : few x) : mid x := by
  cases x using RNum.rec3 with
  | fin s n e m => exact ⟨by have := h.1; omega, by have := h.2.1; omega, by have := h.2.2.1; omega, h.2.2.2⟩
  | nan => exact trivial
  | inf s => exact trivial
theorem numOf_few (b : Nat) : few (numOf Ieee.single b) := by
  rcases numOf_cases b with h | ⟨s, h⟩ | ⟨s, n, e, h, hn, h0, h1⟩
  · rw [h]; exact trivial
  · rw [h]; exact trivial
  · rw [h]
    have : blen n ≤ 24 := blen_le hn
    exact ⟨by omega, by omega, by omega, rfl⟩

theorem timesR_mid {x y : RNum} (fx : few x) (fy : few y) : mid (timesR x y) := by
  cases x using RNum.rec3 with
  | nan => exact trivial
  | inf s =>
    cases y using RNum.rec3 with
    | nan => exact trivial
    | inf t => exact trivial
    | fin t n f g => show mid (if zeroB (.fin t n f g) = true then .nan else .inf (s != t)); split <;> exact trivial
  | fin s n e m =>
    cases y using RNum.rec3 with
    | nan => exact trivial
    | inf t => show mid (if zeroB (.fin s n e m) = true then .nan else .inf (s != t)); split <;> exact trivial
    | fin t k f g =>
      obtain ⟨a1, a2, a3, _⟩ := fx
      obtain ⟨b1, b2, b3, _⟩ := fy
      refine ⟨?_, by omega, by omega, rfl⟩
      have h2 : n * k < 2 ^ blen n * 2 ^ blen k := Nat.mul_lt_mul_of_lt_of_lt (blen_lt n) (blen_lt k)
      rw [← Nat.pow_add] at h2
      have := blen_le h2
      omega
theorem mid_fits {x : RNum} (h : mid x) : fits x := by
  cases x using RNum.rec3 with
  | nan => exact trivial
  | inf s => exact trivial
  | fin s n e m =>
    obtain ⟨a1, a2, a3, hm⟩ := h
    exact ⟨by omega, by omega, by omega, fun g => by rw [hm] at g; cases g⟩

/-- The other sign. -/
def oppR : RNum → RNum
  | ⟨none⟩ => .nan
  | ⟨some (.inl s)⟩ => .inf !s
  | ⟨some (.inr (s, n, e, m))⟩ => .fin (!s) n e m
theorem opp_mid {x : RNum} (h : mid x) : mid (oppR x) := by cases x using RNum.rec3 <;> exact h

theorem opp_num {w : World} {x : RNum} {k : Int} {s : Bool} {nv : Value} {e : Int} {m : Bool} (h : NumAt w (.agg #[.int .i64 k, .bool s, nv, .int .i64 e, .bool m]) x) : NumAt w (.agg #[.int .i64 k, .bool !s, nv, .int .i64 e, .bool m]) (oppR x) := by
  cases x using RNum.rec3 with
  | nan =>
    obtain ⟨b, e', m', h⟩ := h
    simp at h
    obtain ⟨rfl, rfl, rfl, rfl, rfl⟩ := h
    exact ⟨_, _, _, rfl⟩
  | inf t =>
    obtain ⟨e', m', h⟩ := h
    simp at h
    obtain ⟨rfl, rfl, rfl, rfl, rfl⟩ := h
    exact ⟨_, _, rfl⟩
  | fin t n f g =>
    obtain ⟨nv', h, hn⟩ := h
    simp at h
    obtain ⟨rfl, rfl, rfl, rfl, rfl⟩ := h
    exact ⟨_, rfl, hn⟩

/-- Products. -/
theorem times_link (d d' : Ieee.Datum) : roundR (timesR (datumR d) (datumR d')) = toldD (d.product d') := by
  cases d with
  | nan s t => cases d' <;> rfl
  | infinity s =>
    cases d' with
    | nan t f => rfl
    | infinity t =>
      show Ieee.single.word (s != t) 2139095040 = Ieee.single.word (s ^^ t) Ieee.single.infRung
      cases s <;> cases t <;> rw [single_inf] <;> rfl
    | number t n j =>
      show roundR (if (decide (n = 0) && !false) = true then .nan else .inf (s != t)) = toldD (if n = 0 then none else some (.infinity (s ^^ t)))
      by_cases h : n = 0
      · rw [if_pos h, if_pos (by simp [h])]; rfl
      · rw [if_neg h, if_neg (by simp [h])]
        show Ieee.single.word (s != t) 2139095040 = Ieee.single.word (s ^^ t) Ieee.single.infRung
        cases s <;> cases t <;> rw [single_inf] <;> rfl
  | number s m i =>
    cases d' with
    | nan t f => rfl
    | infinity t =>
      show roundR (if (decide (m = 0) && !false) = true then .nan else .inf (s != t)) = toldD (if m = 0 then none else some (.infinity (t ^^ s)))
      by_cases h : m = 0
      · rw [if_pos h, if_pos (by simp [h])]; rfl
      · rw [if_neg h, if_neg (by simp [h])]
        show Ieee.single.word (s != t) 2139095040 = Ieee.single.word (t ^^ s) Ieee.single.infRung
        cases s <;> cases t <;> rw [single_inf] <;> rfl
    | number t n j =>
      show roundR (.fin (s != t) (m * n) (i + j) false) = Ieee.single.nearest (s ^^ t) (m * n) (i + j)
      cases s <;> cases t <;> rw [roundR_fin] <;> rfl
theorem opp_link (d : Ieee.Datum) : oppR (datumR d) = datumR d.opposite := by cases d <;> rfl
end Go.Proofs.YtnjagokojdpgpabDoor
/- What the functions of package bits that package arith calls return: class, NaN, made, key, least, greatest; what was in memory stays as it was. -/
namespace Go.Proofs.YtnjagokojdpgpabDoor
open Go.RowKit

theorem and_lo (s : Int) (h0 : 0 ≤ s) (h1 : s < 2147483648) : bits .and .u32 s 2147483648 = 0 := by go_bits2
theorem and_hi (s : Int) (h0 : 2147483648 ≤ s) (h1 : s ≤ 4294967295) : bits .and .u32 s 2147483648 = 2147483648 := by go_bits2
theorem or_lo (s : Int) (h0 : 0 ≤ s) (h1 : s < 2147483648) : bits .or .u32 s 2147483648 = s + 2147483648 := by go_bits2
theorem and_255 (s : Int) (h0 : 0 ≤ s) (h1 : s ≤ 4294967295) : bits .and .u32 s 255 = s % 256 := by go_bits2
theorem and_frac (s : Int) (h0 : 0 ≤ s) (h1 : s ≤ 4294967295) : bits .and .u32 s 8388607 = s % 8388608 := by go_bits2

/-- A sample's key. -/
def keyV (s : Int) : Int := if s < 2147483648 then s + 2147483648 else 4294967295 - s
theorem keyV_lo {s : Int} (h : s < 2147483648) : keyV s = s + 2147483648 := by unfold keyV; rw [if_pos h]
theorem keyV_hi {s : Int} (h : 2147483648 ≤ s) : keyV s = 4294967295 - s := by unfold keyV; rw [if_neg (by omega)]
/-- Whether a stands ahead of b. -/
def befB (a b : Int) : Bool := decide (keyV a < keyV b)
def leastV (a b : Int) : Int := if befB b a = true then b else a
def greatestV (a b : Int) : Int := if befB a b = true then b else a

/-- Exponent and fraction of a sample. -/
def expV (s : Int) : Int := s / 8388608 % 256
def fracV (s : Int) : Int := s % 8388608
def negB (s : Int) : Bool := decide (2147483648 ≤ s)
theorem expV_bd (s : Int) : 0 ≤ expV s ∧ expV s ≤ 255 := by unfold expV; omega
theorem fracV_bd (s : Int) : 0 ≤ fracV s ∧ fracV s ≤ 8388607 := by unfold fracV; omega
/-- The class by number: 1 NaN, 2 infinity, 3 normal, 4 small, 5 nought. -/
def classV (s : Int) : Int := if expV s = 255 then (if fracV s = 0 then 2 else 1) else if expV s = 0 then (if fracV s = 0 then 5 else 4) else 3
theorem neg_bit {s : Int} (h0 : 0 ≤ s) (h1 : s ≤ 4294967295) : (bits .and .u32 s 2147483648 != 0) = negB s := by
  unfold negB
  by_cases h : s < 2147483648
  · rw [and_lo s h0 h]; simp; omega
  · rw [and_hi s (by omega) h1]; simp; omega
theorem exp_bits {s : Int} (h0 : 0 ≤ s) (h1 : s ≤ 4294967295) : bits .and .u32 (s / 8388608) 255 = expV s := and_255 _ (by omega) (by omega)
theorem frac_bits {s : Int} (h0 : 0 ≤ s) (h1 : s ≤ 4294967295) : bits .and .u32 s 8388607 = fracV s := and_frac _ h0 h1
theorem classV_1 {s : Int} (h : expV s = 255) (g : ¬ fracV s = 0) : classV s = 1 := by unfold classV; rw [if_pos h, if_neg g]
theorem classV_2 {s : Int} (h : expV s = 255) (g : fracV s = 0) : classV s = 2 := by unfold classV; rw [if_pos h, if_pos g]
theorem classV_3 {s : Int} (h : ¬ expV s = 255) (g : ¬ expV s = 0) : classV s = 3 := by unfold classV; rw [if_neg h, if_neg g]
theorem classV_4 {s : Int} (h : expV s = 0) (g : ¬ fracV s = 0) : classV s = 4 := by unfold classV; rw [if_neg (by omega), if_pos h, if_neg g]
theorem classV_5 {s : Int} (h : expV s = 0) (g : fracV s = 0) : classV s = 5 := by unfold classV; rw [if_neg (by omega), if_pos h, if_pos g]

set_option maxHeartbeats 400000 in
theorem makeup_any (s : Int) (h0 : 0 ≤ s) (h1 : s ≤ 4294967295) (w : World) :
    Calls Tryd.prog 90 #[.int .u32 s] w fun e w' => e = .returned (.agg #[.bool (negB s), .int .u32 (expV s), .int .u32 (fracV s)]) ∧ Q w w' := by
  have e1 := neg_bit h0 h1
  have e2 := exp_bits h0 h1
  have e3 := frac_bits h0 h1
  go_enter Tryd.func90, Tryd.ntmps90
  go_wp2
  exact bodyPost_ret (v := .agg #[.bool (negB s), .int .u32 (expV s), .int .u32 (fracV s)]) (by simp [results, Tryd.results90, go_sem]) rfl ⟨rfl, (Q.refl w).cells _ _⟩

set_option maxHeartbeats 400000 in
theorem class_any (s : Int) (h0 : 0 ≤ s) (h1 : s ≤ 4294967295) (w : World) :
    Calls Tryd.prog 84 #[.int .u32 s] w fun e w' => e = .returned (.int .i64 (classV s)) ∧ Q w w' := by
  obtain ⟨x0, x1⟩ := expV_bd s
  obtain ⟨f0, f1⟩ := fracV_bd s
  go_enter Tryd.func84, Tryd.ntmps84
  go_wp2_with fail
  refine (makeup_any s h0 h1 _).mono ?_
  rintro e w1 ⟨rfl, q1⟩
  go_wp2_with fail
  all_goals
    go_ret
    exact ⟨ret_int (by first | exact (classV_1 (by assumption) (by assumption)).symm | exact (classV_2 (by assumption) (by assumption)).symm | exact (classV_3 (by assumption) (by assumption)).symm | exact (classV_4 (by assumption) (by assumption)).symm | exact (classV_5 (by assumption) (by assumption)).symm), q1.cells _ _⟩

theorem class_nan (a : Nat) : (classV (a : Int) == 1) = nanN a := by
  unfold nanN classV expV fracV
  by_cases h1 : (a : Int) / 8388608 % 256 = 255
  · rw [if_pos h1]
    by_cases h2 : (a : Int) % 8388608 = 0
    · rw [if_pos h2, decide_eq_false (by omega)]; rfl
    · rw [if_neg h2, decide_eq_true (by omega)]; rfl
  · rw [if_neg h1, decide_eq_false (by omega)]
    split
    · split <;> rfl
    · rfl

set_option maxHeartbeats 400000 in
theorem isnan_any (a : Nat) (ha : a < 4294967296) (w : World) :
    Calls Tryd.prog 79 #[.int .u32 a] w fun e w' => e = .returned (.bool (nanN a)) ∧ Q w w' := by
  have e1 := class_nan a
  go_enter Tryd.func79, Tryd.ntmps79
  go_wp2_with fail
  refine (class_any a (by omega) (by omega) _).mono ?_
  rintro e w1 ⟨rfl, q1⟩
  go_wp2_with fail
  go_ret
  exact ⟨rfl, q1⟩

/-- A sample, or the made NaN. -/
def madeN (a : Nat) : Nat := if nanN a = true then 2143289344 else a
theorem madeN_lt {a : Nat} (h : a < 4294967296) : madeN a < 4294967296 := by unfold madeN; split <;> omega
theorem madeN_of {a : Nat} (h : nanN a = false) : madeN a = a := by unfold madeN; rw [h]; rfl
theorem madeN_nan {a : Nat} (h : nanN a = true) : madeN a = 2143289344 := by unfold madeN; rw [h]; rfl
set_option maxHeartbeats 400000 in
theorem made_any (a : Nat) (ha : a < 4294967296) (w : World) :
    Calls Tryd.prog 76 #[.int .u32 a] w fun e w' => e = .returned (.int .u32 (madeN a : Nat)) ∧ Q w w' := by
  cases h : nanN a
  · rw [madeN_of h]
    go_enter Tryd.func76, Tryd.ntmps76
    go_wp2_with fail
    refine (isnan_any a ha _).mono ?_
    rintro e w1 ⟨rfl, q1⟩
    go_wp2_with fail
    go_ret
    exact ⟨rfl, q1⟩
  · rw [madeN_nan h]
    go_enter Tryd.func76, Tryd.ntmps76
    go_wp2_with fail
    refine (isnan_any a ha _).mono ?_
    rintro e w1 ⟨rfl, q1⟩
    go_wp2_with fail
    go_ret
    exact ⟨rfl, q1⟩

end Go.Proofs.YtnjagokojdpgpabDoor
