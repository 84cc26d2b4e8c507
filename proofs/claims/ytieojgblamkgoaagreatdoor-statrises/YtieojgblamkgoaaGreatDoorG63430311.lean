/- Plain facts on floats as words: what is told of a datum; words that are drawn; read and written words. -/
import Derived.Test.YtieojgblamkgoaaGreatDoorG48a8b647
import Derived.Test.YtieojgblamkgoaaGreatDoorG68186302
import Derived.Laws.FloatArith
import Derived.Test.YtieojgblamkgoaaGreatDoorG40cf8070
namespace Go.Proofs.YtieojgblamkgoaaGreatDoor
open Go.RowKit

/-- What is told of a datum, or of none. -/
def toldD (d : Option Ieee.Datum) : Nat := match d with
  | none => 2143289344
  | some (.nan ..) => 2143289344
  | some x => Ieee.single.write x

theorem rungOf_le (f : Ieee.Format) (m : Nat) (p : Int) : rungOf f m p ≤ f.infRung := by
  unfold rungOf; split
  · exact Nat.zero_le _
  · exact Nat.min_le_right ..
theorem sign32 : Ieee.single.signWeight = 2147483648 := by decide
theorem inf32 : Ieee.single.infRung = 2139095040 := by decide
theorem binade32 : Ieee.single.binade = 8388608 := by decide
theorem least32 : Ieee.single.leastPlace = -149 := by decide
theorem sign64 : Ieee.double.signWeight = 9223372036854775808 := by decide
theorem inf64 : Ieee.double.infRung = 9218868437227405312 := by decide
theorem binade64 : Ieee.double.binade = 4503599627370496 := by decide
theorem least64 : Ieee.double.leastPlace = -1074 := by decide
theorem word32 (s : Bool) (r : Nat) : Ieee.single.word s r = s.toNat * 2147483648 + r := by
  unfold Ieee.Format.word; rw [sign32]; cases s <;> simp
theorem word64 (s : Bool) (r : Nat) : Ieee.double.word s r = s.toNat * 9223372036854775808 + r := by
  unfold Ieee.Format.word; rw [sign64]; cases s <;> simp
theorem nanN_word {s : Bool} {r : Nat} (h : r ≤ 2139095040) : nanN (Ieee.single.word s r) = false := by
  unfold nanN; rw [word32]; have := Bool.toNat_lt s; exact decide_eq_false (by omega)
/-- Is a word of 64 bits a NaN? -/
def nan64 (a : Nat) : Bool := decide (9218868437227405312 < a % 9223372036854775808)
theorem nanN_write {d : Ieee.Datum} (h : d.isNaN = false) : nanN (Ieee.single.write d) = false := by
  cases d with
  | nan s t => cases h
  | infinity s => exact nanN_word (by rw [inf32]; omega)
  | number s m p =>
    show nanN (Ieee.single.nearest s m p) = false
    rw [nearest_rung]
    exact nanN_word (by have := rungOf_le Ieee.single m p; rw [inf32] at this; exact this)
theorem toldD_some {d : Ieee.Datum} (h : d.isNaN = false) : toldD (some d) = Ieee.single.write d := by
  cases d with
  | nan s t => cases h
  | infinity s => rfl
  | number s m p => rfl
theorem write32_lt (d : Ieee.Datum) : Ieee.single.write d < 4294967296 := Ieee.single.write_lt d
theorem toldD_lt (d : Option Ieee.Datum) : toldD d < 4294967296 := by
  unfold toldD; split
  · omega
  · omega
  · exact write32_lt _

theorem read32_nan {a : Nat} (h : nanN a = true) : (Ieee.single.read a).isNaN = true := by
  unfold nanN at h
  have h := of_decide_eq_true h
  unfold Ieee.Format.read
  rw [sign32, binade32, inf32, least32]
  dsimp only
  rw [if_neg (by omega), if_neg (by omega), if_neg (by omega)]
  rfl
theorem read64_nan {a : Nat} (h : nan64 a = true) : (Ieee.double.read a).isNaN = true := by
  unfold nan64 at h
  have h := of_decide_eq_true h
  unfold Ieee.Format.read
  rw [sign64, binade64, inf64, least64]
  dsimp only
  rw [if_neg (by omega), if_neg (by omega), if_neg (by omega)]
  rfl
theorem read64_num {a : Nat} (h : nan64 a = false) : (Ieee.double.read a).isNaN = false := by
  unfold nan64 at h
  have h := of_decide_eq_false h
  unfold Ieee.Format.read
  rw [sign64, binade64, inf64, least64]
  dsimp only
  split
  · rfl
  · split
    · rfl
    · rw [if_pos (by omega)]; rfl
theorem isNaN_cases {d : Ieee.Datum} (h : d.isNaN = true) : ∃ s t, d = .nan s t := by
  cases d with
  | nan s t => exact ⟨s, t, rfl⟩
  | infinity s => cases h
  | number s m p => cases h
theorem order_nan1 {f : Ieee.Format} {x : Nat} (y : Nat) (h : (f.read x).isNaN = true) : f.order x y = none := by
  obtain ⟨s, t, e⟩ := isNaN_cases h
  unfold Ieee.Format.order; rw [e]; cases f.read y <;> rfl
theorem order_nan2 {f : Ieee.Format} {y : Nat} (x : Nat) (h : (f.read y).isNaN = true) : f.order x y = none := by
  obtain ⟨s, t, e⟩ := isNaN_cases h
  unfold Ieee.Format.order; rw [e]; cases f.read x <;> rfl

/-- The word that is drawn where an operation has no answer. -/
def nanw (k : FloatKind) (x y : Nat) (w : World) : Nat := (Question.nanBits k x y).cut (w.tape w.drawn (.nanBits k x y))
theorem nanw32 (x y : Nat) (w : World) : nanN (nanw .f32 x y w) = true ∧ nanw .f32 x y w < 4294967296 := by
  unfold nanw
  generalize w.tape w.drawn (.nanBits .f32 x y) = t
  have e : (Question.nanBits .f32 x y).cut t = (t % 2) * 2147483648 + 2139095040 + 1 + (t / 2) % 8388607 := rfl
  rw [e]
  have hz : (t / 2) % 8388607 < 8388607 := Nat.mod_lt _ (by decide)
  have ha : t % 2 < 2 := Nat.mod_lt _ (by decide)
  clear e
  generalize (t / 2) % 8388607 = z at hz
  generalize t % 2 = a at ha
  unfold nanN
  exact ⟨decide_eq_true (by omega), by omega⟩
/-- The word that is drawn of a NaN that is made wide or narrow. -/
def nanc (k : FloatKind) (b : Nat) (w : World) : Nat := (Question.nanConv k b).cut (w.tape w.drawn (.nanConv k b))
theorem nanc32 (b : Nat) (w : World) : nanN (nanc .f32 b w) = true ∧ nanc .f32 b w < 4294967296 := by
  unfold nanc
  generalize w.tape w.drawn (.nanConv .f32 b) = t
  have e : (Question.nanConv .f32 b).cut t = (t % 2) * 2147483648 + 2139095040 + 1 + (t / 2) % 8388607 := rfl
  rw [e]
  have hz : (t / 2) % 8388607 < 8388607 := Nat.mod_lt _ (by decide)
  have ha : t % 2 < 2 := Nat.mod_lt _ (by decide)
  clear e
  generalize (t / 2) % 8388607 = z at hz
  generalize t % 2 = a at ha
  unfold nanN
  exact ⟨decide_eq_true (by omega), by omega⟩
theorem run_conv_nan {P : Program} (src dst : TypeId) (s k : FloatKind) (b : Nat) (ne : s ≠ k) (hs : (P.underlying src).isSome = true) (hd : P.underlying dst = some (.float k)) (h : (s.format.read b).isNaN = true) (w : World) :
    (convert src dst (.float s b)).run P w = .ok (.float k (nanc k b w)) w.drew := by
  obtain ⟨u, hs'⟩ := Option.isSome_iff_exists.1 hs
  obtain ⟨sg, t, e⟩ := isNaN_cases h
  have e' : s.decode b = .nan sg t := e
  cases u <;> simp [convert, run_underlying hs', run_underlying hd, Conv.floatToFloat, ne, e', nanc, Question.forced]
end Go.Proofs.YtieojgblamkgoaaGreatDoor
/- Plain facts: the reference's exact sums and products, rounded, are those of the model's arithmetic. -/
namespace Go.Proofs.YtieojgblamkgoaaGreatDoor
open Go.RowKit

end Go.Proofs.YtieojgblamkgoaaGreatDoor
/- What the reference's Mul, Fma and Sub return of whatever samples: the exact number, rounded. -/
namespace Go.Proofs.YtieojgblamkgoaaGreatDoor
open Go.RowKit

/-- Numbers of a few hundred digits at most. -/
def few : RNum → Prop
  | ⟨some (.inr (_, n, e, m))⟩ => blen n ≤ 500 ∧ -500 ≤ e ∧ e ≤ 500 ∧ m = false
  | _ => True
end Go.Proofs.YtieojgblamkgoaaGreatDoor
/- What the reference's DivNum and Div return of whatever samples. -/
namespace Go.Proofs.YtieojgblamkgoaaGreatDoor
open Go.RowKit

end Go.Proofs.YtieojgblamkgoaaGreatDoor
/- What the functions of package bits that package arith calls return: class, NaN, made, key, least, greatest; what was in memory stays as it was. -/
namespace Go.Proofs.YtieojgblamkgoaaGreatDoor
open Go.RowKit

theorem and_lo (s : Int) (h0 : 0 ≤ s) (h1 : s < 2147483648) : bits .and .u32 s 2147483648 = 0 := by go_bits2
theorem and_hi (s : Int) (h0 : 2147483648 ≤ s) (h1 : s ≤ 4294967295) : bits .and .u32 s 2147483648 = 2147483648 := by go_bits2
theorem or_lo (s : Int) (h0 : 0 ≤ s) (h1 : s < 2147483648) : bits .or .u32 s 2147483648 = s + 2147483648 := by go_bits2
theorem and_255 (s : Int) (h0 : 0 ≤ s) (h1 : s ≤ 4294967295) : bits .and .u32 s 255 = s % 256 := by go_bits2
theorem and_frac (s : Int) (h0 : 0 ≤ s) (h1 : s ≤ 4294967295) : bits .and .u32 s 8388607 = s % 8388608 := by go_bits2

/-- A sample's key. -/
def keyV (s : Int) : Int := if s < 2147483648 then s + 2147483648 else 4294967295 - s
theorem keyV_lo {s : Int} (h : s < 2147483648) : keyV s = s + 2147483648 := by unfold keyV; rw [if_pos h]
theorem keyV_hi {s : Int} (h : 2147483648 ≤ s) : keyV s = 4294967295 - s := by unfold keyV; rw [if_neg (by omega)]
/-- Exponent and fraction of a sample. -/
def expV (s : Int) : Int := s / 8388608 % 256
def fracV (s : Int) : Int := s % 8388608
def negB (s : Int) : Bool := decide (2147483648 ≤ s)
theorem expV_bd (s : Int) : 0 ≤ expV s ∧ expV s ≤ 255 := by unfold expV; omega
theorem fracV_bd (s : Int) : 0 ≤ fracV s ∧ fracV s ≤ 8388607 := by unfold fracV; omega
/-- The class by number: 1 NaN, 2 infinity, 3 normal, 4 small, 5 nought. -/
def classV (s : Int) : Int := if expV s = 255 then (if fracV s = 0 then 2 else 1) else if expV s = 0 then (if fracV s = 0 then 5 else 4) else 3
theorem neg_bit {s : Int} (h0 : 0 ≤ s) (h1 : s ≤ 4294967295) : (bits .and .u32 s 2147483648 != 0) = negB s := by
  unfold negB
  by_cases h : s < 2147483648
  · rw [and_lo s h0 h]; simp; omega
  · rw [and_hi s (by omega) h1]; simp; omega
theorem exp_bits {s : Int} (h0 : 0 ≤ s) (h1 : s ≤ 4294967295) : bits .and .u32 (s / 8388608) 255 = expV s := and_255 _ (by omega) (by omega)
theorem frac_bits {s : Int} (h0 : 0 ≤ s) (h1 : s ≤ 4294967295) : bits .and .u32 s 8388607 = fracV s := and_frac _ h0 h1
theorem classV_1 {s : Int} (h : expV s = 255) (g : ¬ fracV s = 0) : classV s = 1 := by unfold classV; rw [if_pos h, if_neg g]
theorem classV_2 {s : Int} (h : expV s = 255) (g : fracV s = 0) : classV s = 2 := by unfold classV; rw [if_pos h, if_pos g]
theorem classV_3 {s : Int} (h : ¬ expV s = 255) (g : ¬ expV s = 0) : classV s = 3 := by unfold classV; rw [if_neg h, if_neg g]
theorem classV_4 {s : Int} (h : expV s = 0) (g : ¬ fracV s = 0) : classV s = 4 := by unfold classV; rw [if_neg (by omega), if_pos h, if_neg g]
theorem classV_5 {s : Int} (h : expV s = 0) (g : fracV s = 0) : classV s = 5 := by unfold classV; rw [if_neg (by omega), if_pos h, if_pos g]

set_option maxHeartbeats 400000 in
theorem makeup_any (s : Int) (h0 : 0 ≤ s) (h1 : s ≤ 4294967295) (w : World) :
    Calls Tryz.prog 136 #[.int .u32 s] w fun e w' => e = .returned (.agg #[.bool (negB s), .int .u32 (expV s), .int .u32 (fracV s)]) ∧ Q w w' := by
  have e1 := neg_bit h0 h1
  have e2 := exp_bits h0 h1
  have e3 := frac_bits h0 h1
  go_enter Tryz.func136, Tryz.ntmps136
  go_wp2
  exact bodyPost_ret (v := .agg #[.bool (negB s), .int .u32 (expV s), .int .u32 (fracV s)]) (by simp [results, Tryz.results136, go_sem]) rfl ⟨rfl, (Q.refl w).cells _ _⟩

set_option maxHeartbeats 400000 in
theorem class_any (s : Int) (h0 : 0 ≤ s) (h1 : s ≤ 4294967295) (w : World) :
    Calls Tryz.prog 107 #[.int .u32 s] w fun e w' => e = .returned (.int .i64 (classV s)) ∧ Q w w' := by
  obtain ⟨x0, x1⟩ := expV_bd s
  obtain ⟨f0, f1⟩ := fracV_bd s
  go_enter Tryz.func107, Tryz.ntmps107
  go_wp2_with fail
  refine (makeup_any s h0 h1 _).mono ?_
  rintro e w1 ⟨rfl, q1⟩
  go_wp2_with fail
  all_goals
    go_ret
    exact ⟨ret_int (by first | exact (classV_1 (by assumption) (by assumption)).symm | exact (classV_2 (by assumption) (by assumption)).symm | exact (classV_3 (by assumption) (by assumption)).symm | exact (classV_4 (by assumption) (by assumption)).symm | exact (classV_5 (by assumption) (by assumption)).symm), q1.cells _ _⟩

theorem class_nan (a : Nat) : (classV (a : Int) == 1) = nanN a := by
  unfold nanN classV expV fracV
  by_cases h1 : (a : Int) / 8388608 % 256 = 255
  · rw [if_pos h1]
    by_cases h2 : (a : Int) % 8388608 = 0
    · rw [if_pos h2, decide_eq_false (by omega)]; rfl
    · rw [if_neg h2, decide_eq_true (by omega)]; rfl
  · rw [if_neg h1, decide_eq_false (by omega)]
    split
    · split <;> rfl
    · rfl

set_option maxHeartbeats 400000 in
theorem isnan_any (a : Nat) (ha : a < 4294967296) (w : World) :
    Calls Tryz.prog 83 #[.int .u32 a] w fun e w' => e = .returned (.bool (nanN a)) ∧ Q w w' := by
  have e1 := class_nan a
  go_enter Tryz.func83, Tryz.ntmps83
  go_wp2_with fail
  refine (class_any a (by omega) (by omega) _).mono ?_
  rintro e w1 ⟨rfl, q1⟩
  go_wp2_with fail
  go_ret
  exact ⟨rfl, q1⟩

/-- A sample, or the made NaN. -/
def madeN (a : Nat) : Nat := if nanN a = true then 2143289344 else a
theorem madeN_of {a : Nat} (h : nanN a = false) : madeN a = a := by unfold madeN; rw [h]; rfl
theorem madeN_nan {a : Nat} (h : nanN a = true) : madeN a = 2143289344 := by unfold madeN; rw [h]; rfl
set_option maxHeartbeats 400000 in
theorem made_any (a : Nat) (ha : a < 4294967296) (w : World) :
    Calls Tryz.prog 160 #[.int .u32 a] w fun e w' => e = .returned (.int .u32 (madeN a : Nat)) ∧ Q w w' := by
  cases h : nanN a
  · rw [madeN_of h]
    go_enter Tryz.func160, Tryz.ntmps160
    go_wp2_with fail
    refine (isnan_any a ha _).mono ?_
    rintro e w1 ⟨rfl, q1⟩
    go_wp2_with fail
    go_ret
    exact ⟨rfl, q1⟩
  · rw [madeN_nan h]
    go_enter Tryz.func160, Tryz.ntmps160
    go_wp2_with fail
    refine (isnan_any a ha _).mono ?_
    rintro e w1 ⟨rfl, q1⟩
    go_wp2_with fail
    go_ret
    exact ⟨rfl, q1⟩

set_option maxHeartbeats 400000 in
theorem key_any (s : Int) (h0 : 0 ≤ s) (h1 : s ≤ 4294967295) (w : World) :
    Calls Tryz.prog 81 #[.int .u32 s] w fun e w' => e = .returned (.int .u32 (keyV s)) ∧ w' = w := by
  by_cases h : s < 2147483648
  · have e1 := and_lo s h0 h
    have e2 := or_lo s h0 h
    go_enter Tryz.func81, Tryz.ntmps81
    go_wp2
    go_ret
    exact ⟨ret_int (keyV_lo h).symm, rfl⟩
  · have e1 := and_hi s (by omega) h1
    go_enter Tryz.func81, Tryz.ntmps81
    go_wp2
    go_ret
    exact ⟨ret_int (keyV_hi (by omega)).symm, rfl⟩

end Go.Proofs.YtieojgblamkgoaaGreatDoor
/- What package arith's Add, Sub, Mul, Div, Half, Less, Equal, Least, Greatest and Wide return, in the model's own words of floats; what was in memory stays as it was. -/
namespace Go.Proofs.YtieojgblamkgoaaGreatDoor
open Go.RowKit

theorem f32from (a : Nat) (w : World) : (callFunc 29 #[.int .u32 (a : Int)]).run Tryz.prog w = .ok (.value (.float .f32 a)) w := by
  rw [run_callFunc_extern (e := Extern.MathFloatBits.float32frombits) Tryz.func29 (by kernel_rfl) (by kernel_rfl) (by kernel_rfl) (by kernel_rfl)]
  rfl
theorem f32bits (x : Nat) (w : World) : (callFunc 63 #[.float .f32 x]).run Tryz.prog w = .ok (.value (.int .u32 (x : Int))) w := by
  rw [run_callFunc_extern (e := Extern.MathFloatBits.float32bits) Tryz.func63 (by kernel_rfl) (by kernel_rfl) (by kernel_rfl) (by kernel_rfl)]
  rfl
theorem f64bits (x : Nat) (w : World) : (callFunc 138 #[.float .f64 x]).run Tryz.prog w = .ok (.value (.int .u64 (x : Int))) w := by
  rw [run_callFunc_extern (e := Extern.MathFloatBits.float64bits) Tryz.func138 (by kernel_rfl) (by kernel_rfl) (by kernel_rfl) (by kernel_rfl)]
  rfl
theorem f64from (a : Nat) (w : World) : (callFunc 148 #[.int .u64 (a : Int)]).run Tryz.prog w = .ok (.value (.float .f64 a)) w := by
  rw [run_callFunc_extern (e := Extern.MathFloatBits.float64frombits) Tryz.func148 (by kernel_rfl) (by kernel_rfl) (by kernel_rfl) (by kernel_rfl)]
  rfl
set_option maxHeartbeats 400000 in
theorem sample_any (x : Nat) (hx : x < 4294967296) (w : World) : Calls Tryz.prog 155 #[.float .f32 x] w fun e w' => e = .returned (.int .u32 (madeN x : Nat)) ∧ Q w w' := by
  have l1 := f32bits
  go_enter Tryz.func155, Tryz.ntmps155
  go_wp2_with fail
  refine (made_any x hx _).mono ?_
  rintro e w1 ⟨rfl, q1⟩
  go_wp2_with fail
  go_ret
  exact ⟨rfl, q1⟩

end Go.Proofs.YtieojgblamkgoaaGreatDoor
/- Plain facts: words of both forms as values: how they are read, and their order, told by their rungs (the bits below the sign). -/
namespace Go.Proofs.YtieojgblamkgoaaGreatDoor
open Go.RowKit

theorem cmp_of {a b : Int} {o : Ordering} (h : (a < b ∧ o = .lt) ∨ (a = b ∧ o = .eq) ∨ (b < a ∧ o = .gt)) : compare a b = o := by
  rcases h with ⟨h, rfl⟩ | ⟨h, rfl⟩ | ⟨h, rfl⟩
  · exact Int.compare_eq_lt.2 h
  · exact Int.compare_eq_eq.2 h
  · exact Int.compare_eq_gt.2 h
/-- Two pairs of numbers that stand alike compare alike. -/
theorem cmp_alike {a b c d : Int} (h1 : c < d → a < b) (h2 : c = d → a = b) (h3 : d < c → b < a) : compare a b = compare c d := by
  rcases Int.lt_trichotomy c d with h | h | h
  · rw [Int.compare_eq_lt.2 h, Int.compare_eq_lt.2 (h1 h)]
  · rw [Int.compare_eq_eq.2 h, Int.compare_eq_eq.2 (h2 h)]
  · rw [Int.compare_eq_gt.2 h, Int.compare_eq_gt.2 (h3 h)]

theorem signed_shift (s : Bool) (m k j : Nat) : Ieee.signed s m k * 2 ^ j = Ieee.signed s (m * 2 ^ (k + j)) 0 := by
  unfold Ieee.signed
  rw [Nat.shiftLeft_eq, Nat.shiftLeft_eq, Nat.pow_add]
  cases s <;> simp [Int.mul_assoc, Int.neg_mul]

theorem cmp_scale {a b p : Int} (h : 0 < p) : compare (a * p) (b * p) = compare a b := by
  refine cmp_alike (fun g => Int.mul_lt_mul_of_pos_right g h) (fun g => by rw [g]) (fun g => Int.mul_lt_mul_of_pos_right g h)

/-- The place of a rung32 above the least one, and its magnitude there. -/
def plc32 (r : Nat) : Nat := r / 8388608 - 1
def mag32 (r : Nat) : Nat := r - plc32 r * 8388608
def val32 (r : Nat) : Nat := mag32 r * 2 ^ plc32 r

theorem mag_lt32 (r : Nat) : mag32 r < 16777216 := by unfold mag32 plc32; omega
theorem mag_ge32 {r : Nat} (h : 0 < plc32 r) : 8388608 ≤ mag32 r := by unfold mag32; unfold plc32 at h ⊢; omega
theorem val_mono32 {r s : Nat} (h : r < s) : val32 r < val32 s := by
  have hk : plc32 r ≤ plc32 s := by
    have : r / 8388608 ≤ s / 8388608 := Nat.div_le_div_right (Nat.le_of_lt h)
    unfold plc32; omega
  rcases Nat.lt_or_ge (plc32 r) (plc32 s) with hlt | hge
  · obtain ⟨d, hd⟩ : ∃ d, plc32 s = plc32 r + 1 + d := ⟨plc32 s - plc32 r - 1, by omega⟩
    have h1 : val32 r < 16777216 * 2 ^ plc32 r := by unfold val32; exact Nat.mul_lt_mul_of_pos_right (mag_lt32 r) (Nat.two_pow_pos _)
    have h2 : 8388608 * 2 ^ plc32 s ≤ val32 s := by unfold val32; exact Nat.mul_le_mul_right _ (mag_ge32 (by omega))
    have h3 : 16777216 * 2 ^ plc32 r ≤ 8388608 * 2 ^ plc32 s := by
      rw [hd, Nat.pow_add, Nat.pow_succ]
      have : 1 ≤ 2 ^ d := Nat.two_pow_pos d
      have h4 : 16777216 * 2 ^ plc32 r * 1 ≤ 16777216 * 2 ^ plc32 r * 2 ^ d := Nat.mul_le_mul_left _ this
      have h5 : 8388608 * (2 ^ plc32 r * 2 * 2 ^ d) = 16777216 * 2 ^ plc32 r * 2 ^ d := by
        rw [← Nat.mul_assoc, ← Nat.mul_assoc, Nat.mul_right_comm 8388608 _ 2]
      omega
    omega
  · have e : plc32 r = plc32 s := by omega
    unfold val32
    rw [← e]
    refine Nat.mul_lt_mul_of_pos_right ?_ (Nat.two_pow_pos _)
    have b1 : plc32 r * 8388608 ≤ r := by unfold plc32; omega
    unfold mag32; rw [← e]; omega
theorem val_zero32 : val32 0 = 0 := by decide

/-- The sign bit of a word and its rung32. -/
def sgn32 (x : Nat) : Bool := x / 2147483648 % 2 == 1
def rung32 (x : Nat) : Nat := x % 2147483648
/-- The signed rung32. -/
def srung32 (x : Nat) : Int := if sgn32 x = true then -(rung32 x : Int) else rung32 x


theorem read_fin32 {x : Nat} (h : rung32 x < 2139095040) : Ieee.single.read x = .number (sgn32 x) (mag32 (rung32 x)) (-149 + (plc32 (rung32 x) : Int)) := by
  unfold Ieee.Format.read
  rw [sign32, binade32, inf32, least32]
  show (if rung32 x < 8388608 then Ieee.Datum.number (sgn32 x) (rung32 x) (-149) else if rung32 x < 2139095040 then _ else _) = _
  by_cases c : rung32 x < 8388608
  · rw [if_pos c]
    have e1 : plc32 (rung32 x) = 0 := by unfold plc32; omega
    have e2 : mag32 (rung32 x) = rung32 x := by unfold mag32; rw [e1]; omega
    rw [e1, e2]; rfl
  · rw [if_neg c, if_pos h]
    have e2 : 8388608 + rung32 x % 8388608 = mag32 (rung32 x) := by unfold mag32 plc32; omega
    show Ieee.Datum.number (sgn32 x) (8388608 + rung32 x % 8388608) (-149 + ((rung32 x / 8388608 - 1 : Nat) : Int)) = _
    rw [e2]; rfl
theorem read_inf32 {x : Nat} (h : rung32 x = 2139095040) : Ieee.single.read x = .infinity (sgn32 x) := by
  unfold Ieee.Format.read
  rw [sign32, binade32, inf32, least32]
  show (if rung32 x < 8388608 then _ else if rung32 x < 2139095040 then _ else if rung32 x = 2139095040 then Ieee.Datum.infinity (sgn32 x) else _) = _
  rw [if_neg (by omega), if_neg (by omega), if_pos h]
/-- The signed value in units of the least place. -/
def sval32 (x : Nat) : Int := if sgn32 x = true then -(val32 (rung32 x) : Int) else val32 (rung32 x)
theorem val_inj_lt32 {r s : Nat} : val32 r < val32 s ↔ r < s := by
  constructor
  · intro h
    rcases Nat.lt_trichotomy r s with g | g | g
    · exact g
    · subst g; omega
    · have := val_mono32 g; omega
  · exact val_mono32
theorem val_pos32 {r : Nat} (h : 0 < r) : 0 < val32 r := by have := val_mono32 h; rw [val_zero32] at this; exact this
theorem sval_srung32 (x y : Nat) : compare (sval32 x) (sval32 y) = compare (srung32 x) (srung32 y) := by
  unfold sval32 srung32
  have l1 := @val_inj_lt32 (rung32 x) (rung32 y)
  have l2 := @val_inj_lt32 (rung32 y) (rung32 x)
  have z1 : 0 < rung32 x → 0 < val32 (rung32 x) := val_pos32
  have z2 : 0 < rung32 y → 0 < val32 (rung32 y) := val_pos32
  have z3 : rung32 x = 0 → val32 (rung32 x) = 0 := fun h => by rw [h]; exact val_zero32
  have z4 : rung32 y = 0 → val32 (rung32 y) = 0 := fun h => by rw [h]; exact val_zero32
  have z5 : rung32 x = rung32 y → val32 (rung32 x) = val32 (rung32 y) := fun h => by rw [h]
  generalize val32 (rung32 x) = vx at *
  generalize val32 (rung32 y) = vy at *
  generalize rung32 x = rx at *
  generalize rung32 y = ry at *
  refine cmp_alike ?_ ?_ ?_ <;> split <;> split <;> omega

theorem order_fin32 {x y : Nat} (hx : rung32 x < 2139095040) (hy : rung32 y < 2139095040) : Ieee.single.order x y = some (compare (srung32 x) (srung32 y)) := by
  unfold Ieee.Format.order
  rw [read_fin32 hx, read_fin32 hy]
  show some (compare (Ieee.signed (sgn32 x) (mag32 (rung32 x)) (-149 + (plc32 (rung32 x) : Int) - min (-149 + (plc32 (rung32 x) : Int)) (-149 + (plc32 (rung32 y) : Int))).toNat) (Ieee.signed (sgn32 y) (mag32 (rung32 y)) (-149 + (plc32 (rung32 y) : Int) - min (-149 + (plc32 (rung32 x) : Int)) (-149 + (plc32 (rung32 y) : Int))).toNat)) = _
  congr 1
  generalize hk : min (plc32 (rung32 x)) (plc32 (rung32 y)) = k
  have e1 : (-149 + (plc32 (rung32 x) : Int) - min (-149 + (plc32 (rung32 x) : Int)) (-149 + (plc32 (rung32 y) : Int))).toNat = plc32 (rung32 x) - k := by omega
  have e2 : (-149 + (plc32 (rung32 y) : Int) - min (-149 + (plc32 (rung32 x) : Int)) (-149 + (plc32 (rung32 y) : Int))).toNat = plc32 (rung32 y) - k := by omega
  rw [e1, e2, ← sval_srung32]
  have hp : (0 : Int) < 2 ^ k := Int.pow_pos (by decide)
  rw [← cmp_scale hp, signed_shift, signed_shift]
  rw [show plc32 (rung32 x) - k + k = plc32 (rung32 x) by omega, show plc32 (rung32 y) - k + k = plc32 (rung32 y) by omega]
  unfold Ieee.signed sval32 val32
  simp

theorem order_num32 {x y : Nat} (hx : rung32 x ≤ 2139095040) (hy : rung32 y ≤ 2139095040) : Ieee.single.order x y = some (compare (srung32 x) (srung32 y)) := by
  rcases Nat.lt_or_ge (rung32 x) 2139095040 with gx | gx
  · rcases Nat.lt_or_ge (rung32 y) 2139095040 with gy | gy
    · exact order_fin32 gx gy
    · unfold Ieee.Format.order
      rw [read_fin32 gx, read_inf32 (by omega)]
      show some (if sgn32 y = true then Ordering.gt else Ordering.lt) = _
      congr 1
      symm
      unfold srung32
      cases sgn32 x <;> cases sgn32 y <;> (refine cmp_of ?_; simp; omega)
  · rcases Nat.lt_or_ge (rung32 y) 2139095040 with gy | gy
    · unfold Ieee.Format.order
      rw [read_fin32 gy, read_inf32 (by omega)]
      show some (if sgn32 x = true then Ordering.lt else Ordering.gt) = _
      congr 1
      symm
      unfold srung32
      cases sgn32 x <;> cases sgn32 y <;> (refine cmp_of ?_; simp; omega)
    · unfold Ieee.Format.order
      have e1 : rung32 x = 2139095040 := by omega
      have e2 : rung32 y = 2139095040 := by omega
      rw [read_inf32 e1, read_inf32 e2]
      show some (compare (sgn32 y).toNat (sgn32 x).toNat) = _
      congr 1
      unfold srung32
      rw [e1, e2]
      cases sgn32 x <;> cases sgn32 y <;> rfl
/-- The place of a rung64 above the least one, and its magnitude there. -/
def plc64 (r : Nat) : Nat := r / 4503599627370496 - 1
def mag64 (r : Nat) : Nat := r - plc64 r * 4503599627370496
def val64 (r : Nat) : Nat := mag64 r * 2 ^ plc64 r

theorem mag_lt64 (r : Nat) : mag64 r < 9007199254740992 := by unfold mag64 plc64; omega
theorem mag_ge64 {r : Nat} (h : 0 < plc64 r) : 4503599627370496 ≤ mag64 r := by unfold mag64; unfold plc64 at h ⊢; omega
theorem val_mono64 {r s : Nat} (h : r < s) : val64 r < val64 s := by
  have hk : plc64 r ≤ plc64 s := by
    have : r / 4503599627370496 ≤ s / 4503599627370496 := Nat.div_le_div_right (Nat.le_of_lt h)
    unfold plc64; omega
  rcases Nat.lt_or_ge (plc64 r) (plc64 s) with hlt | hge
  · obtain ⟨d, hd⟩ : ∃ d, plc64 s = plc64 r + 1 + d := ⟨plc64 s - plc64 r - 1, by omega⟩
    have h1 : val64 r < 9007199254740992 * 2 ^ plc64 r := by unfold val64; exact Nat.mul_lt_mul_of_pos_right (mag_lt64 r) (Nat.two_pow_pos _)
    have h2 : 4503599627370496 * 2 ^ plc64 s ≤ val64 s := by unfold val64; exact Nat.mul_le_mul_right _ (mag_ge64 (by omega))
    have h3 : 9007199254740992 * 2 ^ plc64 r ≤ 4503599627370496 * 2 ^ plc64 s := by
      rw [hd, Nat.pow_add, Nat.pow_succ]
      have : 1 ≤ 2 ^ d := Nat.two_pow_pos d
      have h4 : 9007199254740992 * 2 ^ plc64 r * 1 ≤ 9007199254740992 * 2 ^ plc64 r * 2 ^ d := Nat.mul_le_mul_left _ this
      have h5 : 4503599627370496 * (2 ^ plc64 r * 2 * 2 ^ d) = 9007199254740992 * 2 ^ plc64 r * 2 ^ d := by
        rw [← Nat.mul_assoc, ← Nat.mul_assoc, Nat.mul_right_comm 4503599627370496 _ 2]
      omega
    omega
  · have e : plc64 r = plc64 s := by omega
    unfold val64
    rw [← e]
    refine Nat.mul_lt_mul_of_pos_right ?_ (Nat.two_pow_pos _)
    have b1 : plc64 r * 4503599627370496 ≤ r := by unfold plc64; omega
    unfold mag64; rw [← e]; omega
theorem val_zero64 : val64 0 = 0 := by decide

/-- The sign bit of a word and its rung64. -/
def sgn64 (x : Nat) : Bool := x / 9223372036854775808 % 2 == 1
def rung64 (x : Nat) : Nat := x % 9223372036854775808
/-- The signed rung64. -/
def srung64 (x : Nat) : Int := if sgn64 x = true then -(rung64 x : Int) else rung64 x


theorem read_fin64 {x : Nat} (h : rung64 x < 9218868437227405312) : Ieee.double.read x = .number (sgn64 x) (mag64 (rung64 x)) (-1074 + (plc64 (rung64 x) : Int)) := by
  unfold Ieee.Format.read
  rw [sign64, binade64, inf64, least64]
  show (if rung64 x < 4503599627370496 then Ieee.Datum.number (sgn64 x) (rung64 x) (-1074) else if rung64 x < 9218868437227405312 then _ else _) = _
  by_cases c : rung64 x < 4503599627370496
  · rw [if_pos c]
    have e1 : plc64 (rung64 x) = 0 := by unfold plc64; omega
    have e2 : mag64 (rung64 x) = rung64 x := by unfold mag64; rw [e1]; omega
    rw [e1, e2]; rfl
  · rw [if_neg c, if_pos h]
    have e2 : 4503599627370496 + rung64 x % 4503599627370496 = mag64 (rung64 x) := by unfold mag64 plc64; omega
    show Ieee.Datum.number (sgn64 x) (4503599627370496 + rung64 x % 4503599627370496) (-1074 + ((rung64 x / 4503599627370496 - 1 : Nat) : Int)) = _
    rw [e2]; rfl
theorem read_inf64 {x : Nat} (h : rung64 x = 9218868437227405312) : Ieee.double.read x = .infinity (sgn64 x) := by
  unfold Ieee.Format.read
  rw [sign64, binade64, inf64, least64]
  show (if rung64 x < 4503599627370496 then _ else if rung64 x < 9218868437227405312 then _ else if rung64 x = 9218868437227405312 then Ieee.Datum.infinity (sgn64 x) else _) = _
  rw [if_neg (by omega), if_neg (by omega), if_pos h]
/-- The signed value in units of the least place. -/
def sval64 (x : Nat) : Int := if sgn64 x = true then -(val64 (rung64 x) : Int) else val64 (rung64 x)
theorem val_inj_lt64 {r s : Nat} : val64 r < val64 s ↔ r < s := by
  constructor
  · intro h
    rcases Nat.lt_trichotomy r s with g | g | g
    · exact g
    · subst g; omega
    · have := val_mono64 g; omega
  · exact val_mono64
theorem val_pos64 {r : Nat} (h : 0 < r) : 0 < val64 r := by have := val_mono64 h; rw [val_zero64] at this; exact this
theorem sval_srung64 (x y : Nat) : compare (sval64 x) (sval64 y) = compare (srung64 x) (srung64 y) := by
  unfold sval64 srung64
  have l1 := @val_inj_lt64 (rung64 x) (rung64 y)
  have l2 := @val_inj_lt64 (rung64 y) (rung64 x)
  have z1 : 0 < rung64 x → 0 < val64 (rung64 x) := val_pos64
  have z2 : 0 < rung64 y → 0 < val64 (rung64 y) := val_pos64
  have z3 : rung64 x = 0 → val64 (rung64 x) = 0 := fun h => by rw [h]; exact val_zero64
  have z4 : rung64 y = 0 → val64 (rung64 y) = 0 := fun h => by rw [h]; exact val_zero64
  have z5 : rung64 x = rung64 y → val64 (rung64 x) = val64 (rung64 y) := fun h => by rw [h]
  generalize val64 (rung64 x) = vx at *
  generalize val64 (rung64 y) = vy at *
  generalize rung64 x = rx at *
  generalize rung64 y = ry at *
  refine cmp_alike ?_ ?_ ?_ <;> split <;> split <;> omega

theorem order_fin64 {x y : Nat} (hx : rung64 x < 9218868437227405312) (hy : rung64 y < 9218868437227405312) : Ieee.double.order x y = some (compare (srung64 x) (srung64 y)) := by
  unfold Ieee.Format.order
  rw [read_fin64 hx, read_fin64 hy]
  show some (compare (Ieee.signed (sgn64 x) (mag64 (rung64 x)) (-1074 + (plc64 (rung64 x) : Int) - min (-1074 + (plc64 (rung64 x) : Int)) (-1074 + (plc64 (rung64 y) : Int))).toNat) (Ieee.signed (sgn64 y) (mag64 (rung64 y)) (-1074 + (plc64 (rung64 y) : Int) - min (-1074 + (plc64 (rung64 x) : Int)) (-1074 + (plc64 (rung64 y) : Int))).toNat)) = _
  congr 1
  generalize hk : min (plc64 (rung64 x)) (plc64 (rung64 y)) = k
  have e1 : (-1074 + (plc64 (rung64 x) : Int) - min (-1074 + (plc64 (rung64 x) : Int)) (-1074 + (plc64 (rung64 y) : Int))).toNat = plc64 (rung64 x) - k := by omega
  have e2 : (-1074 + (plc64 (rung64 y) : Int) - min (-1074 + (plc64 (rung64 x) : Int)) (-1074 + (plc64 (rung64 y) : Int))).toNat = plc64 (rung64 y) - k := by omega
  rw [e1, e2, ← sval_srung64]
  have hp : (0 : Int) < 2 ^ k := Int.pow_pos (by decide)
  rw [← cmp_scale hp, signed_shift, signed_shift]
  rw [show plc64 (rung64 x) - k + k = plc64 (rung64 x) by omega, show plc64 (rung64 y) - k + k = plc64 (rung64 y) by omega]
  unfold Ieee.signed sval64 val64
  simp

theorem order_num64 {x y : Nat} (hx : rung64 x ≤ 9218868437227405312) (hy : rung64 y ≤ 9218868437227405312) : Ieee.double.order x y = some (compare (srung64 x) (srung64 y)) := by
  rcases Nat.lt_or_ge (rung64 x) 9218868437227405312 with gx | gx
  · rcases Nat.lt_or_ge (rung64 y) 9218868437227405312 with gy | gy
    · exact order_fin64 gx gy
    · unfold Ieee.Format.order
      rw [read_fin64 gx, read_inf64 (by omega)]
      show some (if sgn64 y = true then Ordering.gt else Ordering.lt) = _
      congr 1
      symm
      unfold srung64
      cases sgn64 x <;> cases sgn64 y <;> (refine cmp_of ?_; simp; omega)
  · rcases Nat.lt_or_ge (rung64 y) 9218868437227405312 with gy | gy
    · unfold Ieee.Format.order
      rw [read_fin64 gy, read_inf64 (by omega)]
      show some (if sgn64 x = true then Ordering.lt else Ordering.gt) = _
      congr 1
      symm
      unfold srung64
      cases sgn64 x <;> cases sgn64 y <;> (refine cmp_of ?_; simp; omega)
    · unfold Ieee.Format.order
      have e1 : rung64 x = 9218868437227405312 := by omega
      have e2 : rung64 y = 9218868437227405312 := by omega
      rw [read_inf64 e1, read_inf64 e2]
      show some (compare (sgn64 y).toNat (sgn64 x).toNat) = _
      congr 1
      unfold srung64
      rw [e1, e2]
      cases sgn64 x <;> cases sgn64 y <;> rfl
end Go.Proofs.YtieojgblamkgoaaGreatDoor
/- Plain facts: words of one form written in the other: what is too great, and what is not. -/
namespace Go.Proofs.YtieojgblamkgoaaGreatDoor
open Go.RowKit

theorem rung_word64 (f : Ieee.Format) (r : Nat) : rungOf f (mag64 r) (-1074 + (plc64 r : Int)) = rungOf f (val64 r) (-1074) := by
  unfold val64; rw [rung_scale]
theorem val_le64 {r s : Nat} (h : r ≤ s) : val64 r ≤ val64 s := by
  rcases Nat.lt_or_eq_of_le h with g | g
  · exact Nat.le_of_lt (val_mono64 g)
  · rw [g]; exact Nat.le_refl _
theorem rung_le64 (f : Ieee.Format) {r s : Nat} (h : r ≤ s) : rungOf f (mag64 r) (-1074 + (plc64 r : Int)) ≤ rungOf f (mag64 s) (-1074 + (plc64 s : Int)) := by
  rw [rung_word64, rung_word64]; exact rung_mono f _ (val_le64 h)

theorem sgn_word32 (s : Bool) {r : Nat} (h : r < 2147483648) : sgn32 (Ieee.single.word s r) = s ∧ rung32 (Ieee.single.word s r) = r := by
  unfold sgn32 rung32; rw [word32]
  cases s
  · exact ⟨by rw [beq_eq_false_iff_ne]; simp; omega, by simp; omega⟩
  · exact ⟨by rw [beq_iff_eq]; simp; omega, by simp; omega⟩
theorem sgn_word64 (s : Bool) {r : Nat} (h : r < 9223372036854775808) : sgn64 (Ieee.double.word s r) = s ∧ rung64 (Ieee.double.word s r) = r := by
  unfold sgn64 rung64; rw [word64]
  cases s
  · exact ⟨by rw [beq_eq_false_iff_ne]; simp; omega, by simp; omega⟩
  · exact ⟨by rw [beq_iff_eq]; simp; omega, by simp; omega⟩
theorem nan64_rung (a : Nat) : nan64 a = decide (9218868437227405312 < rung64 a) := rfl

/-- A sample that is no NaN, as a word of 64 bits. -/
def wideN (a : Nat) : Nat := Ieee.double.write (Ieee.single.read a)
/-- From the bound on a number is an infinity; below it, it is none. -/
theorem nar_hi {r : Nat} (h : 5183643170835005440 ≤ r) : rungOf Ieee.single (mag64 r) (-1074 + (plc64 r : Int)) = 2139095040 := by
  have h1 := rung_le64 Ieee.single h
  have h2 : rungOf Ieee.single (mag64 5183643170835005440) (-1074 + (plc64 5183643170835005440 : Int)) = 2139095040 := by decide +kernel
  have h3 := rungOf_le Ieee.single (mag64 r) (-1074 + (plc64 r : Int))
  rw [inf32] at h3
  omega
theorem nar_lo {r : Nat} (h : r < 5183643170835005440) : rungOf Ieee.single (mag64 r) (-1074 + (plc64 r : Int)) < 2139095040 := by
  have h1 := rung_le64 Ieee.single (r := r) (s := 5183643170835005439) (by omega)
  have h2 : rungOf Ieee.single (mag64 5183643170835005439) (-1074 + (plc64 5183643170835005439 : Int)) < 2139095040 := by decide +kernel
  omega
theorem nar_conv {x : Nat} (h : rung64 x < 5183643170835005440) : floatToFloatBits .f64 x .f32 = some (Ieee.single.write (Ieee.double.read x)) := by
  unfold floatToFloatBits
  rw [if_neg (by decide)]
  have e : FloatKind.f64.decode x = Ieee.double.read x := rfl
  rw [e, read_fin64 (by omega)]
  dsimp only
  have e2 : FloatKind.f32.encode (.number (sgn64 x) (mag64 (rung64 x)) (-1074 + (plc64 (rung64 x) : Int))) = Ieee.single.word (sgn64 x) (rungOf Ieee.single (mag64 (rung64 x)) (-1074 + (plc64 (rung64 x) : Int))) := nearest_rung _ _ _ _
  have e3 : Ieee.single.write (.number (sgn64 x) (mag64 (rung64 x)) (-1074 + (plc64 (rung64 x) : Int))) = Ieee.single.word (sgn64 x) (rungOf Ieee.single (mag64 (rung64 x)) (-1074 + (plc64 (rung64 x) : Int))) := nearest_rung _ _ _ _
  rw [e2, e3]
  have hw := nar_lo h
  obtain ⟨s1, s2⟩ := sgn_word32 (sgn64 x) (r := rungOf Ieee.single (mag64 (rung64 x)) (-1074 + (plc64 (rung64 x) : Int))) (by omega)
  have e4 : FloatKind.f32.decode (Ieee.single.word (sgn64 x) (rungOf Ieee.single (mag64 (rung64 x)) (-1074 + (plc64 (rung64 x) : Int)))) = .number _ _ _ := read_fin32 (by rw [s2]; exact hw)
  rw [e4]; rfl
/-- What is too great. -/
theorem nar_big {x : Nat} (h : 5183643170835005440 ≤ rung64 x) (hn : nan64 x = false) : toldD (some (Ieee.double.read x)) = Ieee.single.word (sgn64 x) 2139095040 := by
  rw [nan64_rung] at hn
  have hn := of_decide_eq_false hn
  rcases Nat.lt_or_ge (rung64 x) 9218868437227405312 with g | g
  · rw [read_fin64 g]
    show Ieee.single.nearest _ _ _ = _
    rw [nearest_rung, nar_hi h]
  · rw [read_inf64 (by omega)]
    show Ieee.single.word _ Ieee.single.infRung = _
    rw [inf32]
theorem nar_nan {x : Nat} (h : nan64 x = true) : toldD (some (Ieee.double.read x)) = 2143289344 := by
  obtain ⟨s, t, e⟩ := isNaN_cases (read64_nan h)
  rw [e]; rfl

theorem cmp_ge (a b : Int) : (some (compare a b) == some Ordering.gt || some (compare a b) == some Ordering.eq) = decide (b ≤ a) := by
  rcases Int.lt_trichotomy a b with h | h | h
  · rw [Int.compare_eq_lt.2 h, decide_eq_false (by omega)]; rfl
  · rw [Int.compare_eq_eq.2 h, decide_eq_true (by omega)]; rfl
  · rw [Int.compare_eq_gt.2 h, decide_eq_true (by omega)]; rfl
theorem cmp_le (a b : Int) : (some (compare a b) == some Ordering.lt || some (compare a b) == some Ordering.eq) = decide (a ≤ b) := by
  rcases Int.lt_trichotomy a b with h | h | h
  · rw [Int.compare_eq_lt.2 h, decide_eq_true (by omega)]; rfl
  · rw [Int.compare_eq_eq.2 h, decide_eq_true (by omega)]; rfl
  · rw [Int.compare_eq_gt.2 h, decide_eq_false (by omega)]; rfl
theorem cmp_lt (a b : Int) : (some (compare a b) == some Ordering.lt) = decide (a < b) := by
  rcases Int.lt_trichotomy a b with h | h | h
  · rw [Int.compare_eq_lt.2 h, decide_eq_true h]; rfl
  · rw [Int.compare_eq_eq.2 h, decide_eq_false (by omega)]; rfl
  · rw [Int.compare_eq_gt.2 h, decide_eq_false (by omega)]; rfl
end Go.Proofs.YtieojgblamkgoaaGreatDoor
/- What package arith's Wide, Narrow, Div and FromInt return, in the model's own words of floats; what was in memory stays as it was. -/
namespace Go.Proofs.YtieojgblamkgoaaGreatDoor
open Go.RowKit

/-- A sample as a binary64. -/
def wideW (a : Nat) : Nat := if nanN a = true then 9221120237041090560 else wideN a
theorem srung_bound : srung64 5183643170835005440 = 5183643170835005440 := by decide
theorem srung_bound' : srung64 14407015207689781248 = -5183643170835005440 := by decide
theorem order_bound {x : Nat} (h : nan64 x = false) : Ieee.double.order x 5183643170835005440 = some (compare (srung64 x) 5183643170835005440) := by
  rw [nan64_rung] at h
  have h := of_decide_eq_false h
  rw [order_num64 (by omega) (by decide), srung_bound]
theorem order_bound' {x : Nat} (h : nan64 x = false) : Ieee.double.order x 14407015207689781248 = some (compare (srung64 x) (-5183643170835005440)) := by
  rw [nan64_rung] at h
  have h := of_decide_eq_false h
  rw [order_num64 (by omega) (by decide), srung_bound']
/-- How a binary64 stands to the bounds of samples. -/
theorem nar_cases (x : Nat) : (nan64 x = true ∧ Ieee.double.order x 5183643170835005440 = none ∧ Ieee.double.order x 14407015207689781248 = none)
    ∨ (nan64 x = false ∧ 5183643170835005440 ≤ rung64 x ∧ sgn64 x = false ∧ (Ieee.double.order x 5183643170835005440 = some .gt ∨ Ieee.double.order x 5183643170835005440 = some .eq))
    ∨ (nan64 x = false ∧ 5183643170835005440 ≤ rung64 x ∧ sgn64 x = true ∧ Ieee.double.order x 5183643170835005440 = some .lt ∧ (Ieee.double.order x 14407015207689781248 = some .lt ∨ Ieee.double.order x 14407015207689781248 = some .eq))
    ∨ (nan64 x = false ∧ rung64 x < 5183643170835005440 ∧ Ieee.double.order x 5183643170835005440 = some .lt ∧ Ieee.double.order x 14407015207689781248 = some .gt) := by
  cases h : nan64 x
  · rw [order_bound h, order_bound' h]
    have hs : srung64 x = if sgn64 x = true then -(rung64 x : Int) else rung64 x := rfl
    rcases Nat.lt_or_ge (rung64 x) 5183643170835005440 with g | g
    · refine Or.inr (Or.inr (Or.inr ⟨rfl, g, ?_, ?_⟩))
      · congr 1; exact Int.compare_eq_lt.2 (by rw [hs]; split <;> omega)
      · congr 1; exact Int.compare_eq_gt.2 (by rw [hs]; split <;> omega)
    · cases hg : sgn64 x
      · rw [hg] at hs
        have hs : srung64 x = rung64 x := hs
        refine Or.inr (Or.inl ⟨rfl, g, rfl, ?_⟩)
        rcases Nat.lt_or_ge 5183643170835005440 (rung64 x) with k | k
        · left; congr 1; exact Int.compare_eq_gt.2 (by omega)
        · right; congr 1; exact Int.compare_eq_eq.2 (by omega)
      · rw [hg] at hs
        have hs : srung64 x = -(rung64 x : Int) := hs
        refine Or.inr (Or.inr (Or.inl ⟨rfl, g, rfl, ?_, ?_⟩))
        · congr 1; exact Int.compare_eq_lt.2 (by omega)
        · rcases Nat.lt_or_ge 5183643170835005440 (rung64 x) with k | k
          · left; congr 1; exact Int.compare_eq_lt.2 (by omega)
          · right; congr 1; exact Int.compare_eq_eq.2 (by omega)
  · have hn := read64_nan h
    exact Or.inl ⟨rfl, order_nan1 _ hn, order_nan1 _ hn⟩

set_option maxHeartbeats 400000 in
theorem narrowed_any (x : Nat) (w : World) : Calls Tryz.prog 147 #[.float .f64 x] w fun e w' => e = .returned (.int .u32 (toldD (some (Ieee.double.read x)) : Nat)) ∧ Q w w' := by
  rcases nar_cases x with ⟨h, o1, o2⟩ | ⟨h, g, hs, o1⟩ | ⟨h, g, hs, o1, o2⟩ | ⟨h, g, o1, o2⟩
  · have o1 : FloatKind.f64.format.order x 5183643170835005440 = none := o1
    have o2 : FloatKind.f64.format.order x 14407015207689781248 = none := o2
    have l1 := fun w => run_conv_nan (P := Tryz.prog) 108 64 .f64 .f32 x (by decide) (by kernel_rfl) Tryz.underlying64 (read64_nan h) w
    rw [nar_nan h]
    clear h
    go_enter Tryz.func147, Tryz.ntmps147
    go_wp2_with fail
    refine (sample_any _ (nanc32 x _).2 _).mono ?_
    rintro e w1 ⟨rfl, q1⟩
    go_wp2_with fail
    go_ret
    exact ⟨ret_int (by rw [madeN_nan (nanc32 x _).1]), ((Q.refl _).drew.trans q1)⟩
  · rw [nar_big g h, hs, show Ieee.single.word false 2139095040 = 2139095040 from rfl]
    clear h g hs
    rcases o1 with o1 | o1
    · have o1 : FloatKind.f64.format.order x 5183643170835005440 = some .gt := o1
      go_enter Tryz.func147, Tryz.ntmps147
      go_wp2_with fail
      go_ret
      exact ⟨rfl, Q.refl _⟩
    · have o1 : FloatKind.f64.format.order x 5183643170835005440 = some .eq := o1
      go_enter Tryz.func147, Tryz.ntmps147
      go_wp2_with fail
      go_ret
      exact ⟨rfl, Q.refl _⟩
  · rw [nar_big g h, hs, show Ieee.single.word true 2139095040 = 4286578688 from rfl]
    clear h g hs
    have o1 : FloatKind.f64.format.order x 5183643170835005440 = some .lt := o1
    rcases o2 with o2 | o2
    · have o2 : FloatKind.f64.format.order x 14407015207689781248 = some .lt := o2
      go_enter Tryz.func147, Tryz.ntmps147
      go_wp2_with fail
      go_ret
      exact ⟨rfl, Q.refl _⟩
    · have o2 : FloatKind.f64.format.order x 14407015207689781248 = some .eq := o2
      go_enter Tryz.func147, Tryz.ntmps147
      go_wp2_with fail
      go_ret
      exact ⟨rfl, Q.refl _⟩
  · have o1 : FloatKind.f64.format.order x 5183643170835005440 = some .lt := o1
    have o2 : FloatKind.f64.format.order x 14407015207689781248 = some .gt := o2
    have l1 := fun w => run_convert_float_float (P := Tryz.prog) w 108 64 .f64 .f32 x _ (by kernel_rfl) Tryz.underlying64 (nar_conv g)
    have hn : Hid ((Ieee.double.read x).isNaN = false) := read64_num h
    clear h g
    go_enter Tryz.func147, Tryz.ntmps147
    go_wp2_with fail
    refine (sample_any _ (write32_lt _) _).mono ?_
    rintro e w1 ⟨rfl, q1⟩
    go_wp2_with fail
    go_ret
    exact ⟨ret_int (by rw [madeN_of (nanN_write hn.out), toldD_some hn.out]), q1⟩

set_option maxHeartbeats 400000 in
theorem cnarrow_any (x : Nat) (w : World) : Calls Tryz.prog 137 #[.int .u64 (x : Int)] w fun e w' => e = .returned (.int .u32 (toldD (some (Ieee.double.read x)) : Nat)) ∧ Q w w' := by
  have l1 := f64from
  go_enter Tryz.func137, Tryz.ntmps137
  go_wp2_with fail
  refine (narrowed_any x _).mono ?_
  rintro e w1 ⟨rfl, q1⟩
  go_wp2_with fail
  go_ret
  exact ⟨rfl, q1⟩

end Go.Proofs.YtieojgblamkgoaaGreatDoor
/- Plain facts: binary64 words of normal numbers: how they are read, rounded, ordered and multiplied by one; samples made wide. -/
namespace Go.Proofs.YtieojgblamkgoaaGreatDoor
open Go.RowKit

/-- The binary64 word of a sign, a full significand m (from 2^52, below 2^53) and its place p. -/
def wd (neg : Bool) (m : Nat) (p : Int) : Nat := (if neg = true then 9223372036854775808 else 0) + ((p + 1074).toNat * 4503599627370496 + m)

theorem read_wd {neg : Bool} {m : Nat} {p : Int} (h0 : 4503599627370496 ≤ m) (h1 : m < 9007199254740992) (p0 : -1074 ≤ p) (p1 : p ≤ 971) : Ieee.double.read (wd neg m p) = .number neg m p := by
  unfold Ieee.Format.read
  rw [sign64, binade64, inf64, least64]
  obtain ⟨q, hq⟩ : ∃ q : Nat, q = (p + 1074).toNat := ⟨_, rfl⟩
  have e1 : (wd neg m p / 9223372036854775808 % 2 == 1) = neg := by
    unfold wd; rw [← hq]; cases neg
    · rw [beq_eq_false_iff_ne]; simp; omega
    · rw [beq_iff_eq]; simp; omega
  have e2 : wd neg m p % 9223372036854775808 = q * 4503599627370496 + m := by
    unfold wd; rw [← hq]; cases neg <;> simp <;> omega
  simp only [e1, e2]
  rw [if_neg (by omega), if_pos (by omega)]
  have e3 : (q * 4503599627370496 + m) % 4503599627370496 = m - 4503599627370496 := by omega
  have e4 : (q * 4503599627370496 + m) / 4503599627370496 - 1 = q := by omega
  have e5 : 4503599627370496 + (m - 4503599627370496) = m := by omega
  have e6 : (-1074 : Int) + (q : Int) = p := by omega
  rw [e3, e4, e5, e6]

theorem cut_exact (neg : Bool) (q d : Nat) (h : 0 < q) : Ieee.Toward.even.cut neg (q * 2 ^ d) d = q := by
  unfold Ieee.Toward.cut
  have hl : d ≤ (q * 2 ^ d).log2 + 2 := by
    have h1 : 2 ^ d ≤ q * 2 ^ d := Nat.le_mul_of_pos_left _ h
    have h2 : q * 2 ^ d ≠ 0 := by have := Nat.two_pow_pos d; omega
    have := (Nat.le_log2 h2).2 h1
    omega
  have e1 : min d ((q * 2 ^ d).log2 + 2) = d := Nat.min_eq_left hl
  rw [e1]
  have e2 : (1 <<< d : Nat) = 2 ^ d := by rw [Nat.shiftLeft_eq, Nat.one_mul]
  rw [e2]
  have hp := Nat.two_pow_pos d
  have e3 : q * 2 ^ d / 2 ^ d = q := Nat.mul_div_cancel _ hp
  have e4 : q * 2 ^ d % 2 ^ d = 0 := Nat.mul_mod_left _ _
  simp only [e3, e4]
  have : ((decide (2 ^ d < 2 * 0)) || (2 ^ d == 2 * 0 && q % 2 == 1)) = false := by
    have hne : ¬ (2 ^ d = 0) := by omega
    simp
  rw [this]; rfl

theorem log2_shift {o L k : Nat} (h0 : 2 ^ L ≤ o) (h1 : o < 2 ^ (L + 1)) : (o * 2 ^ k).log2 = L + k := by
  have hp := Nat.two_pow_pos k
  have ho : o ≠ 0 := by have := Nat.two_pow_pos L; omega
  have hne : o * 2 ^ k ≠ 0 := Nat.mul_ne_zero ho (by omega)
  refine (Nat.log2_eq_iff hne).2 ⟨?_, ?_⟩
  · rw [Nat.pow_add]; exact Nat.mul_le_mul_right _ h0
  · rw [show L + k + 1 = (L + 1) + k by omega, Nat.pow_add]; exact Nat.mul_lt_mul_of_pos_right h1 hp

theorem frac64 : Ieee.double.fractionBits = 52 := rfl
/-- A number of at most 53 binary digits is written just as it is. -/
theorem nearest_exact {neg : Bool} {o L k : Nat} {p : Int} (h0 : 2 ^ L ≤ o) (h1 : o < 2 ^ (L + 1)) (hL : L ≤ 52) (q0 : -1074 ≤ p + k + L - 52) (q1 : p + k + L - 52 ≤ 971) :
    Ieee.double.nearest neg (o * 2 ^ k) p = wd neg (o * 2 ^ (52 - L)) (p + k + L - 52) := by
  have ho : 0 < o := by have := Nat.two_pow_pos L; omega
  have hne : o * 2 ^ k ≠ 0 := Nat.mul_ne_zero (by omega) (by have := Nat.two_pow_pos k; omega)
  unfold Ieee.Format.nearest
  rw [if_neg hne, log2_shift h0 h1, frac64, least64, binade64, inf64]
  have elast : max (p + ((L + k : Nat) : Int) - ((52 : Nat) : Int)) (-1074) = p + k + L - 52 := by omega
  have b1 : o * 2 ^ (52 - L) < 9007199254740992 := by
    have : o * 2 ^ (52 - L) < 2 ^ (L + 1) * 2 ^ (52 - L) := Nat.mul_lt_mul_of_pos_right h1 (Nat.two_pow_pos _)
    rw [← Nat.pow_add, show L + 1 + (52 - L) = 53 by omega] at this
    exact this
  have b0 : 0 < o * 2 ^ (52 - L) := Nat.mul_pos ho (Nat.two_pow_pos _)
  have ekept : Ieee.Toward.even.cut neg ((o * 2 ^ k) <<< (p - (p + k + L - 52)).toNat) ((p + k + L - 52) - p).toNat = o * 2 ^ (52 - L) := by
    rw [Nat.shiftLeft_eq]
    by_cases c : k + L ≤ 52
    · have e1 : (p - (p + k + L - 52)).toNat = 52 - L - k := by omega
      have e2 : ((p + k + L - 52) - p).toNat = 0 := by omega
      rw [e1, e2, Nat.mul_assoc, ← Nat.pow_add, show k + (52 - L - k) = 52 - L by omega]
      have := cut_exact neg (o * 2 ^ (52 - L)) 0 b0
      simpa using this
    · have e1 : (p - (p + k + L - 52)).toNat = 0 := by omega
      have e2 : ((p + k + L - 52) - p).toNat = k + L - 52 := by omega
      rw [e1, e2]
      have e3 : o * 2 ^ k * 2 ^ 0 = o * 2 ^ (52 - L) * 2 ^ (k + L - 52) := by
        rw [Nat.pow_zero, Nat.mul_one, Nat.mul_assoc, ← Nat.pow_add, show 52 - L + (k + L - 52) = k by omega]
      rw [e3]
      exact cut_exact neg _ _ b0
  simp only [elast, ekept]
  unfold Ieee.Format.word wd
  rw [sign64]
  have e5 : (p + k + L - 52 - -1074).toNat = (p + k + L - 52 + 1074).toNat := by congr 1
  rw [e5, Nat.min_eq_left (by omega)]
  cases neg <;> simp

theorem signed_pos {m u : Nat} : Ieee.signed false m u = (m * 2 ^ u : Nat) := by unfold Ieee.signed; rw [Nat.shiftLeft_eq]; rfl

theorem read_zero : Ieee.double.read 0 = .number false 0 (-1074) := by decide
/-- It is not nought. -/
theorem order_wd_zero {neg : Bool} {m : Nat} {p : Int} (h0 : 4503599627370496 ≤ m) (h1 : m < 9007199254740992) (p0 : -1074 ≤ p) (p1 : p ≤ 971) : (Ieee.double.order (wd neg m p) 0 == some .eq) = false := by
  unfold Ieee.Format.order
  rw [read_wd h0 h1 p0 p1, read_zero]
  show (some (compare (Ieee.signed neg m (p - min p (-1074)).toNat) (Ieee.signed false 0 _)) == some .eq) = false
  have hp := Nat.two_pow_pos (p - min p (-1074)).toNat
  have hm : 0 < m * 2 ^ (p - min p (-1074)).toNat := Nat.mul_pos (by omega) hp
  have e : Ieee.signed false 0 (-1074 - min p (-1074)).toNat = 0 := by rw [signed_pos, Nat.zero_mul]; rfl
  rw [e]
  unfold Ieee.signed
  rw [Nat.shiftLeft_eq]
  generalize m * 2 ^ (p - min p (-1074)).toNat = z at hm
  cases neg
  · rw [show (if false = true then -((z : Nat) : Int) else ((z : Nat) : Int)) = z from rfl, Int.compare_eq_gt.2 (by omega)]; rfl
  · rw [show (if true = true then -((z : Nat) : Int) else ((z : Nat) : Int)) = -z from rfl, Int.compare_eq_lt.2 (by omega)]; rfl

theorem read_one : Ieee.double.read 4607182418800017408 = .number false 4503599627370496 (-52) := by decide
/-- One times a number is the number. -/
theorem one_mul_wd {neg : Bool} {m : Nat} {p : Int} (h0 : 4503599627370496 ≤ m) (h1 : m < 9007199254740992) (p0 : -1074 ≤ p) (p1 : p ≤ 971) : Ieee.double.mul 4607182418800017408 (wd neg m p) = some (wd neg m p) := by
  unfold Ieee.Format.mul
  rw [read_wd h0 h1 p0 p1, read_one]
  show some (Ieee.double.nearest (false ^^ neg) (4503599627370496 * m) (-52 + p)) = _
  congr 1
  have e1 : 4503599627370496 * m = m * 2 ^ 52 := by rw [Nat.mul_comm]
  have e2 : (false ^^ neg) = neg := by cases neg <;> rfl
  rw [e1, e2, nearest_exact (L := 52) (by omega) (by omega) (Nat.le_refl _) (by omega) (by omega)]
  rw [Nat.sub_self, Nat.pow_zero, Nat.mul_one]
  congr 1; omega

theorem wd_word (neg : Bool) (m : Nat) (p : Int) : wd neg m p = Ieee.double.word neg ((p + 1074).toNat * 4503599627370496 + m) := by
  rw [word64]; unfold wd; cases neg <;> simp
theorem wd_rung {neg : Bool} {m : Nat} {p : Int} (h1 : m < 9007199254740992) (p1 : p ≤ 971) : rung64 (wd neg m p) = (p + 1074).toNat * 4503599627370496 + m ∧ sgn64 (wd neg m p) = neg := by
  rw [wd_word]
  obtain ⟨a, b⟩ := sgn_word64 neg (r := (p + 1074).toNat * 4503599627370496 + m) (by omega)
  exact ⟨b, a⟩
end Go.Proofs.YtieojgblamkgoaaGreatDoor
