/- Plain facts on floats as words: what is told of a datum; words that are drawn; read and written words. -/
import Derived.Test.YtlelgifdnhnphabG1c6e199d
import Derived.Test.YtlelgifdnhnphabG8e58334a
import Derived.Laws.FloatArith
namespace Go.Proofs.Ytlelgifdnhnphab
open Go.RowKit

/-- What is told of a datum, or of none. -/
def toldD (d : Option Ieee.Datum) : Nat := match d with
  | none => 2143289344
  | some (.nan ..) => 2143289344
  | some x => Ieee.single.write x

theorem rungOf_le (f : Ieee.Format) (m : Nat) (p : Int) : rungOf f m p ≤ f.infRung := by
  unfold rungOf; split
  · exact Nat.zero_le _
  · exact Nat.min_le_right ..
theorem sign32 : Ieee.single.signWeight = 2147483648 := by decide
theorem inf32 : Ieee.single.infRung = 2139095040 := by decide
theorem binade32 : Ieee.single.binade = 8388608 := by decide
theorem least32 : Ieee.single.leastPlace = -149 := by decide
theorem sign64 : Ieee.double.signWeight = 9223372036854775808 := by decide
theorem inf64 : Ieee.double.infRung = 9218868437227405312 := by decide
theorem binade64 : Ieee.double.binade = 4503599627370496 := by decide
theorem least64 : Ieee.double.leastPlace = -1074 := by decide
theorem word32 (s : Bool) (r : Nat) : Ieee.single.word s r = s.toNat * 2147483648 + r := by
  unfold Ieee.Format.word; rw [sign32]; cases s <;> simp
theorem word64 (s : Bool) (r : Nat) : Ieee.double.word s r = s.toNat * 9223372036854775808 + r := by
  unfold Ieee.Format.word; rw [sign64]; cases s <;> simp
theorem nanN_word {s : Bool} {r : Nat} (h : r ≤ 2139095040) : nanN (Ieee.single.word s r) = false := by
  unfold nanN; rw [word32]; have := Bool.toNat_lt s; exact decide_eq_false (by omega)
/-- Is a word of 64 bits a NaN? -/
def nan64 (a : Nat) : Bool := decide (9218868437227405312 < a % 9223372036854775808)
theorem nan64_word {s : Bool} {r : Nat} (h : r ≤ 9218868437227405312) : nan64 (Ieee.double.word s r) = false := by
  unfold nan64; rw [word64]; have := Bool.toNat_lt s; exact decide_eq_false (by omega)
theorem nanN_write {d : Ieee.Datum} (h : d.isNaN = false) : nanN (Ieee.single.write d) = false := by
  cases d with
  | nan s t => cases h
  | infinity s => exact nanN_word (by rw [inf32]; omega)
  | number s m p =>
    show nanN (Ieee.single.nearest s m p) = false
    rw [nearest_rung]
    exact nanN_word (by have := rungOf_le Ieee.single m p; rw [inf32] at this; exact this)
theorem nan64_write {d : Ieee.Datum} (h : d.isNaN = false) : nan64 (Ieee.double.write d) = false := by
  cases d with
  | nan s t => cases h
  | infinity s => exact nan64_word (by rw [inf64]; omega)
  | number s m p =>
    show nan64 (Ieee.double.nearest s m p) = false
    rw [nearest_rung]
    exact nan64_word (by have := rungOf_le Ieee.double m p; rw [inf64] at this; exact this)
theorem toldD_some {d : Ieee.Datum} (h : d.isNaN = false) : toldD (some d) = Ieee.single.write d := by
  cases d with
  | nan s t => cases h
  | infinity s => rfl
  | number s m p => rfl
theorem write32_lt (d : Ieee.Datum) : Ieee.single.write d < 4294967296 := Ieee.single.write_lt d
theorem write64_lt (d : Ieee.Datum) : Ieee.double.write d < 18446744073709551616 := Ieee.double.write_lt d
theorem toldD_lt (d : Option Ieee.Datum) : toldD d < 4294967296 := by
  unfold toldD; split
  · omega
  · omega
  · exact write32_lt _

theorem sum_num {a b d : Ieee.Datum} (h : a.sum b = some d) : d.isNaN = false := by
  cases a <;> cases b <;> simp only [Ieee.Datum.sum] at h
  all_goals first | (cases h; done) | (cases h; rfl) | (split at h <;> first | (cases h; done) | (cases h; rfl))
theorem product_num {a b d : Ieee.Datum} (h : a.product b = some d) : d.isNaN = false := by
  cases a <;> cases b <;> simp only [Ieee.Datum.product] at h
  all_goals first | (cases h; done) | (cases h; rfl) | (split at h <;> first | (cases h; done) | (cases h; rfl))
theorem quotient_num {k : Nat} {a b d : Ieee.Datum} (h : a.quotient k b = some d) : d.isNaN = false := by
  cases a <;> cases b <;> simp only [Ieee.Datum.quotient] at h
  all_goals first | (cases h; done) | (cases h; rfl) | (split at h <;> first | (cases h; done) | (cases h; rfl) | (split at h <;> first | (cases h; done) | (cases h; rfl)))
theorem root_num {k : Nat} {a d : Ieee.Datum} (h : a.root k = some d) : d.isNaN = false := by
  cases a <;> simp only [Ieee.Datum.root] at h
  all_goals first | (cases h; done) | (cases h; rfl) | (split at h <;> first | (cases h; done) | (cases h; rfl) | (split at h <;> first | (cases h; done) | (cases h; rfl)))

theorem read32_nan {a : Nat} (h : nanN a = true) : (Ieee.single.read a).isNaN = true := by
  unfold nanN at h
  have h := of_decide_eq_true h
  unfold Ieee.Format.read
  rw [sign32, binade32, inf32, least32]
  dsimp only
  rw [if_neg (by omega), if_neg (by omega), if_neg (by omega)]
  rfl
theorem read32_num {a : Nat} (h : nanN a = false) : (Ieee.single.read a).isNaN = false := by
  unfold nanN at h
  have h := of_decide_eq_false h
  unfold Ieee.Format.read
  rw [sign32, binade32, inf32, least32]
  dsimp only
  split
  · rfl
  · split
    · rfl
    · rw [if_pos (by omega)]; rfl
theorem read64_nan {a : Nat} (h : nan64 a = true) : (Ieee.double.read a).isNaN = true := by
  unfold nan64 at h
  have h := of_decide_eq_true h
  unfold Ieee.Format.read
  rw [sign64, binade64, inf64, least64]
  dsimp only
  rw [if_neg (by omega), if_neg (by omega), if_neg (by omega)]
  rfl
theorem read64_num {a : Nat} (h : nan64 a = false) : (Ieee.double.read a).isNaN = false := by
  unfold nan64 at h
  have h := of_decide_eq_false h
  unfold Ieee.Format.read
  rw [sign64, binade64, inf64, least64]
  dsimp only
  split
  · rfl
  · split
    · rfl
    · rw [if_pos (by omega)]; rfl
theorem isNaN_cases {d : Ieee.Datum} (h : d.isNaN = true) : ∃ s t, d = .nan s t := by
  cases d with
  | nan s t => exact ⟨s, t, rfl⟩
  | infinity s => cases h
  | number s m p => cases h
theorem order_nan1 {f : Ieee.Format} {x : Nat} (y : Nat) (h : (f.read x).isNaN = true) : f.order x y = none := by
  obtain ⟨s, t, e⟩ := isNaN_cases h
  unfold Ieee.Format.order; rw [e]; cases f.read y <;> rfl
theorem order_nan2 {f : Ieee.Format} {y : Nat} (x : Nat) (h : (f.read y).isNaN = true) : f.order x y = none := by
  obtain ⟨s, t, e⟩ := isNaN_cases h
  unfold Ieee.Format.order; rw [e]; cases f.read x <;> rfl

/-- The word that is drawn where an operation has no answer. -/
def nanw (k : FloatKind) (x y : Nat) (w : World) : Nat := (Question.nanBits k x y).cut (w.tape w.drawn (.nanBits k x y))
theorem nanw32 (x y : Nat) (w : World) : nanN (nanw .f32 x y w) = true ∧ nanw .f32 x y w < 4294967296 := by
  unfold nanw
  generalize w.tape w.drawn (.nanBits .f32 x y) = t
  have e : (Question.nanBits .f32 x y).cut t = (t % 2) * 2147483648 + 2139095040 + 1 + (t / 2) % 8388607 := rfl
  rw [e]
  have hz : (t / 2) % 8388607 < 8388607 := Nat.mod_lt _ (by decide)
  have ha : t % 2 < 2 := Nat.mod_lt _ (by decide)
  clear e
  generalize (t / 2) % 8388607 = z at hz
  generalize t % 2 = a at ha
  unfold nanN
  exact ⟨decide_eq_true (by omega), by omega⟩
theorem nanw64 (x y : Nat) (w : World) : nan64 (nanw .f64 x y w) = true ∧ nanw .f64 x y w < 18446744073709551616 := by
  unfold nanw
  generalize w.tape w.drawn (.nanBits .f64 x y) = t
  have e : (Question.nanBits .f64 x y).cut t = (t % 2) * 9223372036854775808 + 9218868437227405312 + 1 + (t / 2) % 4503599627370495 := rfl
  rw [e]
  have hz : (t / 2) % 4503599627370495 < 4503599627370495 := Nat.mod_lt _ (by decide)
  have ha : t % 2 < 2 := Nat.mod_lt _ (by decide)
  clear e
  generalize (t / 2) % 4503599627370495 = z at hz
  generalize t % 2 = a at ha
  unfold nan64
  exact ⟨decide_eq_true (by omega), by omega⟩
theorem run_arith_none (op : BinOp) (hop : op = .add ∨ op = .sub ∨ op = .mul ∨ op = .quo) (t : TypeId) (k : FloatKind) (x y : Nat) (h : floatBits op k x y = none) (P : Program) (w : World) :
    (binOp op t (.float k x) (.float k y)).run P w = .ok (.float k (nanw k x y w)) w.drew := by
  unfold floatBits at h
  rcases hop with rfl | rfl | rfl | rfl
  all_goals
    simp only at h
    simp [binOp, Op.floatArith, h, nanw, Question.forced]
/-- The word that is drawn of a NaN that is made wide or narrow. -/
def nanc (k : FloatKind) (b : Nat) (w : World) : Nat := (Question.nanConv k b).cut (w.tape w.drawn (.nanConv k b))
theorem nanc32 (b : Nat) (w : World) : nanN (nanc .f32 b w) = true ∧ nanc .f32 b w < 4294967296 := by
  unfold nanc
  generalize w.tape w.drawn (.nanConv .f32 b) = t
  have e : (Question.nanConv .f32 b).cut t = (t % 2) * 2147483648 + 2139095040 + 1 + (t / 2) % 8388607 := rfl
  rw [e]
  have hz : (t / 2) % 8388607 < 8388607 := Nat.mod_lt _ (by decide)
  have ha : t % 2 < 2 := Nat.mod_lt _ (by decide)
  clear e
  generalize (t / 2) % 8388607 = z at hz
  generalize t % 2 = a at ha
  unfold nanN
  exact ⟨decide_eq_true (by omega), by omega⟩
theorem nanc64 (b : Nat) (w : World) : nan64 (nanc .f64 b w) = true ∧ nanc .f64 b w < 18446744073709551616 := by
  unfold nanc
  generalize w.tape w.drawn (.nanConv .f64 b) = t
  have e : (Question.nanConv .f64 b).cut t = (t % 2) * 9223372036854775808 + 9218868437227405312 + 1 + (t / 2) % 4503599627370495 := rfl
  rw [e]
  have hz : (t / 2) % 4503599627370495 < 4503599627370495 := Nat.mod_lt _ (by decide)
  have ha : t % 2 < 2 := Nat.mod_lt _ (by decide)
  clear e
  generalize (t / 2) % 4503599627370495 = z at hz
  generalize t % 2 = a at ha
  unfold nan64
  exact ⟨decide_eq_true (by omega), by omega⟩
theorem run_conv_nan {P : Program} (src dst : TypeId) (s k : FloatKind) (b : Nat) (ne : s ≠ k) (hs : (P.underlying src).isSome = true) (hd : P.underlying dst = some (.float k)) (h : (s.format.read b).isNaN = true) (w : World) :
    (convert src dst (.float s b)).run P w = .ok (.float k (nanc k b w)) w.drew := by
  obtain ⟨u, hs'⟩ := Option.isSome_iff_exists.1 hs
  obtain ⟨sg, t, e⟩ := isNaN_cases h
  have e' : s.decode b = .nan sg t := e
  cases u <;> simp [convert, run_underlying hs', run_underlying hd, Conv.floatToFloat, ne, e', nanc, Question.forced]
end Go.Proofs.Ytlelgifdnhnphab
/- What package arith's Add, Sub, Mul, Div, Half, Less, Equal, Least, Greatest and Wide return, in the model's own words of floats; what was in memory stays as it was. -/
namespace Go.Proofs.Ytlelgifdnhnphab
open Go.RowKit

theorem f32from (a : Nat) (w : World) : (callFunc 23 #[.int .u32 (a : Int)]).run Try.prog w = .ok (.value (.float .f32 a)) w := by
  rw [run_callFunc_extern (e := Extern.MathFloatBits.float32frombits) Try.func23 (by kernel_rfl) (by kernel_rfl) (by kernel_rfl) (by kernel_rfl)]
  rfl
theorem f32bits (x : Nat) (w : World) : (callFunc 62 #[.float .f32 x]).run Try.prog w = .ok (.value (.int .u32 (x : Int))) w := by
  rw [run_callFunc_extern (e := Extern.MathFloatBits.float32bits) Try.func62 (by kernel_rfl) (by kernel_rfl) (by kernel_rfl) (by kernel_rfl)]
  rfl
theorem f64bits (x : Nat) (w : World) : (callFunc 54 #[.float .f64 x]).run Try.prog w = .ok (.value (.int .u64 (x : Int))) w := by
  rw [run_callFunc_extern (e := Extern.MathFloatBits.float64bits) Try.func54 (by kernel_rfl) (by kernel_rfl) (by kernel_rfl) (by kernel_rfl)]
  rfl
theorem f64from (a : Nat) (w : World) : (callFunc 59 #[.int .u64 (a : Int)]).run Try.prog w = .ok (.value (.float .f64 a)) w := by
  rw [run_callFunc_extern (e := Extern.MathFloatBits.float64frombits) Try.func59 (by kernel_rfl) (by kernel_rfl) (by kernel_rfl) (by kernel_rfl)]
  rfl
theorem same32 (x : Nat) (w : World) : (convert 59 59 (.float .f32 x)).run Try.prog w = .ok (.float .f32 x) w :=
  run_convert_float_float w 59 59 .f32 .f32 x x (by kernel_rfl) Try.underlying59 rfl

set_option maxHeartbeats 400000 in
theorem number_any (a : Nat) (w : World) : Calls Try.prog 48 #[.int .u32 (a : Int)] w fun e w' => e = .returned (.float .f32 a) ∧ w' = w := by
  have l1 := f32from
  go_enter Try.func48, Try.ntmps48
  go_wp2_with fail
  go_ret
  exact ⟨rfl, rfl⟩

set_option maxHeartbeats 400000 in
theorem sample_any (x : Nat) (hx : x < 4294967296) (w : World) : Calls Try.prog 55 #[.float .f32 x] w fun e w' => e = .returned (.int .u32 (madeN x : Nat)) ∧ Q w w' := by
  have l1 := f32bits
  go_enter Try.func55, Try.ntmps55
  go_wp2_with fail
  refine (made_any x hx _).mono ?_
  rintro e w1 ⟨rfl, q1⟩
  go_wp2_with fail
  go_ret
  exact ⟨rfl, q1⟩

set_option maxHeartbeats 400000 in
theorem cadd_any (a b : Nat) (w : World) : Calls Try.prog 40 #[.int .u32 (a : Int), .int .u32 (b : Int)] w fun e w' => e = .returned (.int .u32 (toldD ((Ieee.single.read a).sum (Ieee.single.read b)) : Nat)) ∧ Q w w' := by
  cases hd : (Ieee.single.read a).sum (Ieee.single.read b) with
  | none =>
    have hf : floatBits .add .f32 a b = none := by
      show ((Ieee.single.read a).sum (Ieee.single.read b)).map Ieee.single.write = none
      rw [hd]; rfl
    have l1 := fun w => run_arith_none .add (by simp) 59 .f32 a b hf Try.prog w
    have l2 := same32
    clear hd hf
    go_enter Try.func40, Try.ntmps40
    go_wp2_with fail
    refine (number_any a _).mono ?_
    rintro e w1 ⟨rfl, rfl⟩
    go_wp2_with fail
    refine (number_any b _).mono ?_
    rintro e w1 ⟨rfl, rfl⟩
    go_wp2_with fail
    refine (sample_any _ (nanw32 a b _).2 _).mono ?_
    rintro e w1 ⟨rfl, q1⟩
    go_wp2_with fail
    go_ret
    exact ⟨ret_int (by rw [madeN_nan (nanw32 a b _).1]; rfl), ((Q.refl _).drew.trans q1)⟩
  | some d =>
    have hf : floatBits .add .f32 a b = some (Ieee.single.write d) := by
      show ((Ieee.single.read a).sum (Ieee.single.read b)).map Ieee.single.write = _
      rw [hd]; rfl
    have l1 := fun w => run_float_arith (P := Try.prog) w .add 59 .f32 a b _ hf
    have l2 := same32
    have hn : Hid (d.isNaN = false) := sum_num hd
    clear hd hf
    go_enter Try.func40, Try.ntmps40
    go_wp2_with fail
    refine (number_any a _).mono ?_
    rintro e w1 ⟨rfl, rfl⟩
    go_wp2_with fail
    refine (number_any b _).mono ?_
    rintro e w1 ⟨rfl, rfl⟩
    go_wp2_with fail
    refine (sample_any _ (write32_lt d) _).mono ?_
    rintro e w1 ⟨rfl, q1⟩
    go_wp2_with fail
    go_ret
    exact ⟨ret_int (by rw [madeN_of (nanN_write hn.out), toldD_some hn.out]), q1⟩

set_option maxHeartbeats 400000 in
theorem csub_any (a b : Nat) (w : World) : Calls Try.prog 41 #[.int .u32 (a : Int), .int .u32 (b : Int)] w fun e w' => e = .returned (.int .u32 (toldD ((Ieee.single.read a).sum (Ieee.single.read b).opposite) : Nat)) ∧ Q w w' := by
  cases hd : (Ieee.single.read a).sum (Ieee.single.read b).opposite with
  | none =>
    have hf : floatBits .sub .f32 a b = none := by
      show ((Ieee.single.read a).sum (Ieee.single.read b).opposite).map Ieee.single.write = none
      rw [hd]; rfl
    have l1 := fun w => run_arith_none .sub (by simp) 59 .f32 a b hf Try.prog w
    have l2 := same32
    clear hd hf
    go_enter Try.func41, Try.ntmps41
    go_wp2_with fail
    refine (number_any a _).mono ?_
    rintro e w1 ⟨rfl, rfl⟩
    go_wp2_with fail
    refine (number_any b _).mono ?_
    rintro e w1 ⟨rfl, rfl⟩
    go_wp2_with fail
    refine (sample_any _ (nanw32 a b _).2 _).mono ?_
    rintro e w1 ⟨rfl, q1⟩
    go_wp2_with fail
    go_ret
    exact ⟨ret_int (by rw [madeN_nan (nanw32 a b _).1]; rfl), ((Q.refl _).drew.trans q1)⟩
  | some d =>
    have hf : floatBits .sub .f32 a b = some (Ieee.single.write d) := by
      show ((Ieee.single.read a).sum (Ieee.single.read b).opposite).map Ieee.single.write = _
      rw [hd]; rfl
    have l1 := fun w => run_float_arith (P := Try.prog) w .sub 59 .f32 a b _ hf
    have l2 := same32
    have hn : Hid (d.isNaN = false) := sum_num hd
    clear hd hf
    go_enter Try.func41, Try.ntmps41
    go_wp2_with fail
    refine (number_any a _).mono ?_
    rintro e w1 ⟨rfl, rfl⟩
    go_wp2_with fail
    refine (number_any b _).mono ?_
    rintro e w1 ⟨rfl, rfl⟩
    go_wp2_with fail
    refine (sample_any _ (write32_lt d) _).mono ?_
    rintro e w1 ⟨rfl, q1⟩
    go_wp2_with fail
    go_ret
    exact ⟨ret_int (by rw [madeN_of (nanN_write hn.out), toldD_some hn.out]), q1⟩

set_option maxHeartbeats 400000 in
theorem cmul_any (a b : Nat) (w : World) : Calls Try.prog 42 #[.int .u32 (a : Int), .int .u32 (b : Int)] w fun e w' => e = .returned (.int .u32 (toldD ((Ieee.single.read a).product (Ieee.single.read b)) : Nat)) ∧ Q w w' := by
  cases hd : (Ieee.single.read a).product (Ieee.single.read b) with
  | none =>
    have hf : floatBits .mul .f32 a b = none := by
      show ((Ieee.single.read a).product (Ieee.single.read b)).map Ieee.single.write = none
      rw [hd]; rfl
    have l1 := fun w => run_arith_none .mul (by simp) 59 .f32 a b hf Try.prog w
    have l2 := same32
    clear hd hf
    go_enter Try.func42, Try.ntmps42
    go_wp2_with fail
    refine (number_any a _).mono ?_
    rintro e w1 ⟨rfl, rfl⟩
    go_wp2_with fail
    refine (number_any b _).mono ?_
    rintro e w1 ⟨rfl, rfl⟩
    go_wp2_with fail
    refine (sample_any _ (nanw32 a b _).2 _).mono ?_
    rintro e w1 ⟨rfl, q1⟩
    go_wp2_with fail
    go_ret
    exact ⟨ret_int (by rw [madeN_nan (nanw32 a b _).1]; rfl), ((Q.refl _).drew.trans q1)⟩
  | some d =>
    have hf : floatBits .mul .f32 a b = some (Ieee.single.write d) := by
      show ((Ieee.single.read a).product (Ieee.single.read b)).map Ieee.single.write = _
      rw [hd]; rfl
    have l1 := fun w => run_float_arith (P := Try.prog) w .mul 59 .f32 a b _ hf
    have l2 := same32
    have hn : Hid (d.isNaN = false) := product_num hd
    clear hd hf
    go_enter Try.func42, Try.ntmps42
    go_wp2_with fail
    refine (number_any a _).mono ?_
    rintro e w1 ⟨rfl, rfl⟩
    go_wp2_with fail
    refine (number_any b _).mono ?_
    rintro e w1 ⟨rfl, rfl⟩
    go_wp2_with fail
    refine (sample_any _ (write32_lt d) _).mono ?_
    rintro e w1 ⟨rfl, q1⟩
    go_wp2_with fail
    go_ret
    exact ⟨ret_int (by rw [madeN_of (nanN_write hn.out), toldD_some hn.out]), q1⟩

end Go.Proofs.Ytlelgifdnhnphab
