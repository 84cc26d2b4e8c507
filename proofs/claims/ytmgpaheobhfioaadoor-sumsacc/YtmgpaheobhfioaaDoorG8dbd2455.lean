/- Plain facts on floats as words: what is told of a datum; words that are drawn; read and written words. -/
import Derived.Test.YtmgpaheobhfioaaDoorG3bfe62d6
import Derived.Test.YtmgpaheobhfioaaDoorG0a56b44d
import Derived.Laws.FloatArith
import Derived.Test.YtmgpaheobhfioaaDoorGc92d6c29
namespace Go.Proofs.YtmgpaheobhfioaaDoor
open Go.RowKit

/-- What is told of a datum, or of none. -/
def toldD (d : Option Ieee.Datum) : Nat := match d with
  | none => 2143289344
  | some (.nan ..) => 2143289344
  | some x => Ieee.single.write x

theorem rungOf_le (f : Ieee.Format) (m : Nat) (p : Int) : rungOf f m p ≤ f.infRung := by
  unfold rungOf; split
  · exact Nat.zero_le _
  · exact Nat.min_le_right ..
theorem sign32 : Ieee.single.signWeight = 2147483648 := by decide
theorem inf32 : Ieee.single.infRung = 2139095040 := by decide
theorem binade32 : Ieee.single.binade = 8388608 := by decide
theorem least32 : Ieee.single.leastPlace = -149 := by decide
theorem sign64 : Ieee.double.signWeight = 9223372036854775808 := by decide
theorem inf64 : Ieee.double.infRung = 9218868437227405312 := by decide
theorem binade64 : Ieee.double.binade = 4503599627370496 := by decide
theorem least64 : Ieee.double.leastPlace = -1074 := by decide
theorem word32 (s : Bool) (r : Nat) : Ieee.single.word s r = s.toNat * 2147483648 + r := by
  unfold Ieee.Format.word; rw [sign32]; cases s <;> simp
theorem word64 (s : Bool) (r : Nat) : Ieee.double.word s r = s.toNat * 9223372036854775808 + r := by
  unfold Ieee.Format.word; rw [sign64]; cases s <;> simp
theorem nanN_word {s : Bool} {r : Nat} (h : r ≤ 2139095040) : nanN (Ieee.single.word s r) = false := by
  unfold nanN; rw [word32]; have := Bool.toNat_lt s; exact decide_eq_false (by omega)
/-- Is a word of 64 bits a NaN? -/
def nan64 (a : Nat) : Bool := decide (9218868437227405312 < a % 9223372036854775808)
theorem nan64_word {s : Bool} {r : Nat} (h : r ≤ 9218868437227405312) : nan64 (Ieee.double.word s r) = false := by
  unfold nan64; rw [word64]; have := Bool.toNat_lt s; exact decide_eq_false (by omega)
theorem nanN_write {d : Ieee.Datum} (h : d.isNaN = false) : nanN (Ieee.single.write d) = false := by
  cases d with
  | nan s t => cases h
  | infinity s => exact nanN_word (by rw [inf32]; omega)
  | number s m p =>
    show nanN (Ieee.single.nearest s m p) = false
    rw [nearest_rung]
    exact nanN_word (by have := rungOf_le Ieee.single m p; rw [inf32] at this; exact this)
theorem nan64_write {d : Ieee.Datum} (h : d.isNaN = false) : nan64 (Ieee.double.write d) = false := by
  cases d with
  | nan s t => cases h
  | infinity s => exact nan64_word (by rw [inf64]; omega)
  | number s m p =>
    show nan64 (Ieee.double.nearest s m p) = false
    rw [nearest_rung]
    exact nan64_word (by have := rungOf_le Ieee.double m p; rw [inf64] at this; exact this)
theorem toldD_some {d : Ieee.Datum} (h : d.isNaN = false) : toldD (some d) = Ieee.single.write d := by
  cases d with
  | nan s t => cases h
  | infinity s => rfl
  | number s m p => rfl
theorem write32_lt (d : Ieee.Datum) : Ieee.single.write d < 4294967296 := Ieee.single.write_lt d
theorem write64_lt (d : Ieee.Datum) : Ieee.double.write d < 18446744073709551616 := Ieee.double.write_lt d
theorem sum_num {a b d : Ieee.Datum} (h : a.sum b = some d) : d.isNaN = false := by
  cases a <;> cases b <;> simp only [Ieee.Datum.sum] at h
  all_goals first | (cases h; done) | (cases h; rfl) | (split at h <;> first | (cases h; done) | (cases h; rfl))
theorem read64_nan {a : Nat} (h : nan64 a = true) : (Ieee.double.read a).isNaN = true := by
  unfold nan64 at h
  have h := of_decide_eq_true h
  unfold Ieee.Format.read
  rw [sign64, binade64, inf64, least64]
  dsimp only
  rw [if_neg (by omega), if_neg (by omega), if_neg (by omega)]
  rfl
theorem read64_num {a : Nat} (h : nan64 a = false) : (Ieee.double.read a).isNaN = false := by
  unfold nan64 at h
  have h := of_decide_eq_false h
  unfold Ieee.Format.read
  rw [sign64, binade64, inf64, least64]
  dsimp only
  split
  · rfl
  · split
    · rfl
    · rw [if_pos (by omega)]; rfl
theorem isNaN_cases {d : Ieee.Datum} (h : d.isNaN = true) : ∃ s t, d = .nan s t := by
  cases d with
  | nan s t => exact ⟨s, t, rfl⟩
  | infinity s => cases h
  | number s m p => cases h
theorem order_nan1 {f : Ieee.Format} {x : Nat} (y : Nat) (h : (f.read x).isNaN = true) : f.order x y = none := by
  obtain ⟨s, t, e⟩ := isNaN_cases h
  unfold Ieee.Format.order; rw [e]; cases f.read y <;> rfl
/-- The word that is drawn where an operation has no answer. -/
def nanw (k : FloatKind) (x y : Nat) (w : World) : Nat := (Question.nanBits k x y).cut (w.tape w.drawn (.nanBits k x y))
theorem nanw32 (x y : Nat) (w : World) : nanN (nanw .f32 x y w) = true ∧ nanw .f32 x y w < 4294967296 := by
  unfold nanw
  generalize w.tape w.drawn (.nanBits .f32 x y) = t
  have e : (Question.nanBits .f32 x y).cut t = (t % 2) * 2147483648 + 2139095040 + 1 + (t / 2) % 8388607 := rfl
  rw [e]
  have hz : (t / 2) % 8388607 < 8388607 := Nat.mod_lt _ (by decide)
  have ha : t % 2 < 2 := Nat.mod_lt _ (by decide)
  clear e
  generalize (t / 2) % 8388607 = z at hz
  generalize t % 2 = a at ha
  unfold nanN
  exact ⟨decide_eq_true (by omega), by omega⟩
theorem nanw64 (x y : Nat) (w : World) : nan64 (nanw .f64 x y w) = true ∧ nanw .f64 x y w < 18446744073709551616 := by
  unfold nanw
  generalize w.tape w.drawn (.nanBits .f64 x y) = t
  have e : (Question.nanBits .f64 x y).cut t = (t % 2) * 9223372036854775808 + 9218868437227405312 + 1 + (t / 2) % 4503599627370495 := rfl
  rw [e]
  have hz : (t / 2) % 4503599627370495 < 4503599627370495 := Nat.mod_lt _ (by decide)
  have ha : t % 2 < 2 := Nat.mod_lt _ (by decide)
  clear e
  generalize (t / 2) % 4503599627370495 = z at hz
  generalize t % 2 = a at ha
  unfold nan64
  exact ⟨decide_eq_true (by omega), by omega⟩
theorem run_arith_none (op : BinOp) (hop : op = .add ∨ op = .sub ∨ op = .mul ∨ op = .quo) (t : TypeId) (k : FloatKind) (x y : Nat) (h : floatBits op k x y = none) (P : Program) (w : World) :
    (binOp op t (.float k x) (.float k y)).run P w = .ok (.float k (nanw k x y w)) w.drew := by
  unfold floatBits at h
  rcases hop with rfl | rfl | rfl | rfl
  all_goals
    simp only at h
    simp [binOp, Op.floatArith, h, nanw, Question.forced]
/-- The word that is drawn of a NaN that is made wide or narrow. -/
def nanc (k : FloatKind) (b : Nat) (w : World) : Nat := (Question.nanConv k b).cut (w.tape w.drawn (.nanConv k b))
theorem nanc32 (b : Nat) (w : World) : nanN (nanc .f32 b w) = true ∧ nanc .f32 b w < 4294967296 := by
  unfold nanc
  generalize w.tape w.drawn (.nanConv .f32 b) = t
  have e : (Question.nanConv .f32 b).cut t = (t % 2) * 2147483648 + 2139095040 + 1 + (t / 2) % 8388607 := rfl
  rw [e]
  have hz : (t / 2) % 8388607 < 8388607 := Nat.mod_lt _ (by decide)
  have ha : t % 2 < 2 := Nat.mod_lt _ (by decide)
  clear e
  generalize (t / 2) % 8388607 = z at hz
  generalize t % 2 = a at ha
  unfold nanN
  exact ⟨decide_eq_true (by omega), by omega⟩
theorem run_conv_nan {P : Program} (src dst : TypeId) (s k : FloatKind) (b : Nat) (ne : s ≠ k) (hs : (P.underlying src).isSome = true) (hd : P.underlying dst = some (.float k)) (h : (s.format.read b).isNaN = true) (w : World) :
    (convert src dst (.float s b)).run P w = .ok (.float k (nanc k b w)) w.drew := by
  obtain ⟨u, hs'⟩ := Option.isSome_iff_exists.1 hs
  obtain ⟨sg, t, e⟩ := isNaN_cases h
  have e' : s.decode b = .nan sg t := e
  cases u <;> simp [convert, run_underlying hs', run_underlying hd, Conv.floatToFloat, ne, e', nanc, Question.forced]
end Go.Proofs.YtmgpaheobhfioaaDoor
/- Plain facts: the reference's exact sums and products, rounded, are those of the model's arithmetic. -/
namespace Go.Proofs.YtmgpaheobhfioaaDoor
open Go.RowKit

end Go.Proofs.YtmgpaheobhfioaaDoor
/- What the reference's Mul, Fma and Sub return of whatever samples: the exact number, rounded. -/
namespace Go.Proofs.YtmgpaheobhfioaaDoor
open Go.RowKit

/-- Numbers of a few hundred digits at most. -/
def few : RNum → Prop
  | ⟨some (.inr (_, n, e, m))⟩ => blen n ≤ 500 ∧ -500 ≤ e ∧ e ≤ 500 ∧ m = false
  | _ => True
end Go.Proofs.YtmgpaheobhfioaaDoor
/- What the reference's DivNum returns of two numbers that are not 0: the quotient to 60 digits and more, and whether something is left. -/
namespace Go.Proofs.YtmgpaheobhfioaaDoor
open Go.RowKit

/-- By how much the dividend is shifted. -/
def shV (n k : Nat) : Nat := 60 + (blen k - blen n)
theorem div_start {A d : Nat} (hd : 0 < d) (h : blen d ≤ blen A) : A < d * 2 ^ (blen A - blen d + 1) := by
  have h1 := blen_lt A
  have h2 : 2 ^ (blen d - 1) ≤ d := by
    unfold blen
    rw [if_neg (by omega)]
    exact Nat.log2_self_le (by omega)
  have h3 : 0 < blen d := by unfold blen; rw [if_neg (by omega)]; omega
  have h4 : 2 ^ (blen d - 1) * 2 ^ (blen A - blen d + 1) ≤ d * 2 ^ (blen A - blen d + 1) := Nat.mul_le_mul_right _ h2
  rw [← Nat.pow_add, show blen d - 1 + (blen A - blen d + 1) = blen A by omega] at h4
  omega
theorem div_step {rest d g : Nat} (h : rest < d * 2 ^ (g + 1)) (hge : d * 2 ^ g ≤ rest) : rest - d * 2 ^ g < d * 2 ^ g := by
  rw [Nat.pow_succ, ← Nat.mul_assoc] at h
  omega
theorem div_end {A d q rest : Nat} (h : rest + d * q = A) (hr : rest < d * 2 ^ 0) : q = A / d ∧ rest = A % d := by
  rw [Nat.pow_zero, Nat.mul_one] at hr
  have hd : 0 < d := by omega
  constructor
  · rw [← h, Nat.add_mul_div_left _ _ hd, Nat.div_eq_of_lt hr, Nat.zero_add]
  · rw [← h, Nat.add_mul_mod_self_left, Nat.mod_eq_of_lt hr]
theorem blen_mul_pow {n : Nat} (h : n ≠ 0) (k : Nat) : blen (n * 2 ^ k) = blen n + k := by
  unfold blen
  rw [if_neg h, if_neg (Nat.mul_ne_zero h (by have := Nat.two_pow_pos k; omega)), log2_mul_pow h]
  omega

set_option maxHeartbeats 8000000 in
set_option maxRecDepth 1000000 in
theorem div_fin (s t : Bool) (va vb : Value) (n k : Nat) (e f : Int) (w : World) (hn : NatAt w va n) (hk : NatAt w vb k) (n0 : n ≠ 0) (k0 : k ≠ 0)
    (n1 : blen n ≤ 500) (e0 : -1000 ≤ e) (e1 : e ≤ 1000) (k1 : blen k ≤ 500) (f0 : -1000 ≤ f) (f1 : f ≤ 1000) :
    Calls Tryd.prog 63 #[.agg #[.int .i64 2, .bool s, va, .int .i64 e, .bool false], .agg #[.int .i64 2, .bool t, vb, .int .i64 f, .bool false]] w
      fun x w' => ∃ v, x = .returned v ∧ NumAt w' v (.fin (s != t) (n * 2 ^ shV n k / k) (e - f - (shV n k : Int)) (!decide (n * 2 ^ shV n k % k = 0))) ∧ Q w w' := by
  obtain ⟨pa, ba, La, Ca, rfl, hnI⟩ := hn
  obtain ⟨pb, bb, Lb, Cb, rfl, hkI⟩ := hk
  have HNA : Hid (NatAt w (.slice pa La Ca) n) := ⟨pa, ba, La, Ca, rfl, hnI⟩
  have HKA : Hid (NatAt w (.slice pb Lb Cb) k) := ⟨pb, bb, Lb, Cb, rfl, hkI⟩
  obtain ⟨sh, hsh⟩ : ∃ sh, sh = shV n k := ⟨_, rfl⟩
  rw [← hsh]
  have hshb : sh ≤ 560 := by rw [hsh]; unfold shV; omega
  obtain ⟨A, hA⟩ : ∃ A, A = n * 2 ^ sh := ⟨_, rfl⟩
  rw [← hA]
  have hAb : blen A = blen n + sh := by rw [hA]; exact blen_mul_pow n0 sh
  have HAC : Hid (A < cap) := lt_cap (blen_lt A) (by omega)
  have hle : blen k ≤ blen A := by rw [hAb, hsh]; unfold shV; omega
  have HST : Hid _ := div_start (A := A) (d := k) (by omega) hle
  have zn : zeroB (.fin s n e false) = false := by show (decide (n = 0) && !false) = false; rw [decide_eq_false n0]; rfl
  have zk : zeroB (.fin t k f false) = false := by show (decide (k = 0) && !false) = false; rw [decide_eq_false k0]; rfl
  have HZN : Hid _ := zn
  have HZK : Hid _ := zk
  have HSH : Hid _ := hsh
  have HA : Hid _ := hA
  obtain ⟨I, hI⟩ : ∃ I, I = blen A - blen k := ⟨_, rfl⟩
  have HI : Hid _ := hI
  have hIz : (blen A : Int) - (blen k : Int) = (I : Int) := by omega
  have hIb : I ≤ 2000 := by omega
  have HCY : Hid (∀ i, i ≤ 2000 → k * 2 ^ i < cap) := fun i hi => lt_cap (shifted_lt k i (Nat.le_refl _)) (by omega)
  have HC2 : Hid (∀ i, i ≤ 2000 → 1 * 2 ^ i < cap) := fun i hi => lt_cap (k := i + 1) (by rw [Nat.one_mul]; exact Nat.pow_lt_pow_right (by decide) (by omega)) (by omega)
  have hk1 : 1 ≤ k := by omega
  clear zn zk hsh hA hI hle hAb
  go_enter Tryd.func63, Tryd.ntmps63
  go_wp2_with fail
  refine (zero_any _ (.fin s n e false) _ ((((Q.refl w).cells _ _).cells _ _).cells _ _ |>.num ⟨_, rfl, HNA.out⟩)).mono ?_
  rintro x w1 ⟨rfl, c1, rfl⟩
  rw [HZN.out]
  go_wp2_with fail
  refine (zero_any _ (.fin t k f false) _ (((((Q.refl w).cells _ _).cells _ _).cells _ _).cells _ _ |>.num ⟨_, rfl, HKA.out⟩)).mono ?_
  rintro x w1 ⟨rfl, c2, rfl⟩
  rw [HZK.out]
  go_wp2_with fail
  refine (zero_any _ (.fin s n e false) _ ((((((Q.refl w).cells _ _).cells _ _).cells _ _).cells _ _).cells _ _ |>.num ⟨_, rfl, HNA.out⟩)).mono ?_
  rintro x w1 ⟨rfl, c3, rfl⟩
  rw [HZN.out]
  go_upto_region 8 with fail
  go_cut [6] from 11 (fun s6 wc => s6 = .int .i64 sh ∧ TBox w wc (.slice pa La Ca) (.slice pb Lb Cb) e f)
  case first =>
    have wk : IntKind.i64.wrap ((blen k : Int) - (blen n : Int)) = (blen k : Int) - (blen n : Int) := by rw [IntKind.wrap_i64]; omega
    have qw := ((((((Q.refl w).cells #[.int .i64 2, .bool s, .slice pa La Ca, .int .i64 e, .bool false] 43).cells #[.int .i64 2, .bool t, .slice pb Lb Cb, .int .i64 f, .bool false] 43).cells #[.int .i64 0, .bool false, .slice none 0 0, .int .i64 0, .bool false] 43).cells c1 43).cells c2 43).cells c3 43
    go_region_held3 (fun w' => w'.cell? ⟨w.heap.size, 2, none⟩ = some (.slice pa La Ca) ∧ w'.cell? ⟨w.heap.size + 1, 2, none⟩ = some (.slice pb Lb Cb)) (first | (simp [go_sem]; done)) (first | (go_at_call_of 74 (Value.slice pb Lb Cb); refine (bits_any _ k _ (Q.nat qw.drew HKA.out)).mono ?_; rintro x v1 ⟨rfl, rfl⟩) | (go_at_call_of 74 (Value.slice pa La Ca); refine (bits_any _ n _ (Q.nat qw.drew HNA.out)).mono ?_; rintro x v1 ⟨rfl, rfl⟩))
    all_goals go_wp2_with fail
    all_goals
      go_meet
      case rel =>
        go_light
        refine ⟨congrArg (Value.int .i64) (by rw [IntKind.wrap_i64]; have := HSH.out; unfold shV at this; omega), qw.drew, by simp [go_sem], by simp [go_sem], by simp [go_sem], by simp [go_sem], ⟨by simp [go_sem], by simp [go_sem], by simp [go_sem], by simp [go_sem], by simp [go_sem], fun i => by simp [go_sem]⟩⟩
  case rest =>
    obtain ⟨rfl, hB⟩ := hcut
    have a2 := hB.a2
    have b2 := hB.b2
    go_wp2_with fail
    refine (up_any _ n sh _ (hB.q.nat HNA.out) (by rw [← HA.out]; exact HAC.out)).mono ?_
    rintro x w1 ⟨v1, rfl, hv1, q1⟩
    rw [← HA.out] at hv1
    have hB1 := hB.next q1
    have b2 := hB1.b2
    have HV1 : Hid _ := hv1
    clear hv1 hB a2
    go_upto_region 11 with fail
    go_cut [9] from 11 (fun s9 wc => s9 = .int .i64 I ∧ Q w1 wc)
    case first =>
      have wI : IntKind.i64.wrap (I : Int) = (I : Int) := by rw [IntKind.wrap_i64]; omega
      go_region_held3 (fun w' => w'.cell? ⟨w.heap.size + 1, 2, none⟩ = some (.slice pb Lb Cb) ∧ True) (first | (refine ⟨?_, trivial⟩; assumption) | (simp [b2]; done)) (first | (go_at_call_of 74 (Value.slice pb Lb Cb); refine (bits_any _ k _ (Q.nat (hB1.q.drew) HKA.out)).mono ?_; rintro x v2 ⟨rfl, rfl⟩) | (go_at_call_of 74 v1; refine (bits_any _ A _ (Q.nat (Q.refl _).drew HV1.out)).mono ?_; rintro x v2 ⟨rfl, rfl⟩))
      all_goals
        go_wp2_with fail
        go_meet
        case rel => go_light; exact ⟨rfl, (Q.refl _).drew⟩
    case rest =>
      obtain ⟨rfl, q2⟩ := hcut
      have hB2 := hB1.next q2
      have HV2 : Hid _ := q2.nat HV1.out
      clear hB1 b2 q2 q1 HV1
      go_wp2_with fail
      go_loopg [7, 8, 9] (I + 1) (fun g s7 s8 s9 wr => ∃ rest q : Nat, NatAt wr s7 rest ∧ NatAt wr s8 q ∧ rest + k * q = A ∧ rest < k * 2 ^ g ∧ ((g = 0 ∧ s9 = .int .i64 (-1)) ∨ ∃ i : Nat, g = i + 1 ∧ i ≤ 2000 ∧ s9 = .int .i64 i) ∧ TBox w wr (.slice pa La Ca) (.slice pb Lb Cb) e f)
      case atStart => exact ⟨A, 0, HV2.out, nat_nil _, by rw [Nat.mul_zero, Nat.add_zero], by rw [HI.out]; exact HST.out, Or.inr ⟨I, rfl, hIb, rfl⟩, hB2⟩
      case round =>
        obtain ⟨rest, q, h7, h8, hrq, hlt, ⟨rfl, rfl⟩ | ⟨i, rfl, hi, rfl⟩, hB3⟩ := hrel
        · obtain ⟨hq, hr⟩ := div_end hrq hlt
          obtain ⟨p8, b8, L8, C8, rfl, hI8⟩ := h8
          obtain ⟨p7, b7, L7, C7, rfl, hI7⟩ := h7
          have hz := hI7.pos
          have a3 := hB3.a3
          have b3 := hB3.b3
          have d0 := hB3.r.c0
          have d1 := hB3.r.c1
          have d2 := hB3.r.c2
          have d3 := hB3.r.c3
          have d4 := hB3.r.c4
          have y0 := hB3.r.z 0
          have y1 := hB3.r.z 1
          have y2 := hB3.r.z 2
          have y3 := hB3.r.z 3
          have y4 := hB3.r.z 4
          have HQ : Hid _ := hq
          have HRR : Hid _ := hr
          have HZZ : Hid _ := hz
          clear hq hr hz hrq hlt hI7 hIz
          go_wp2_with fail
          refine bodyPost_ret (v := .agg #[.int .i64 2, .bool (s != t), .slice p8 L8 C8, .int .i64 (e - f - (sh : Int)), .bool (decide (0 < (L7 : Int)))]) (by cases s <;> cases t <;> simp [results, Tryd.results63, go_sem, d0, d1, d2, d3, d4]) rfl ⟨_, rfl, ?_, ?_⟩
          · rw [← HQ.out, show (!decide (A % k = 0)) = decide (0 < (L7 : Int)) from by
              rw [← HRR.out]
              by_cases g : rest = 0
              · rw [decide_eq_true g, decide_eq_false (by have := HZZ.out.1 g; omega)]; rfl
              · rw [decide_eq_false g, decide_eq_true (by have : L7 ≠ 0 := fun c => g (HZZ.out.2 c); omega)]; rfl]
            exact ⟨_, rfl, natAt_but ⟨p8, b8, L8, C8, rfl, hI8⟩ d0 (fun a ha => by repeat rw [set_but _ ha])⟩
          · exact ((((hB3.q.set (far2 w) _).set (far2 w) _).set (far2 w) _).set (far2 w) _).set (far2 w) _
        · have hiz : (0 : Int) ≤ (i : Int) := by omega
          have b2 := hB3.b2
          have HRQ : Hid _ := hrq
          have HLT : Hid _ := hlt
          clear hrq hlt
          go_wp2_with fail
          refine (up_any _ k i _ (hB3.q.nat HKA.out) (HCY.out i hi)).mono ?_
          rintro x w4 ⟨v4, rfl, hv4, q4⟩
          have h7' := q4.nat h7
          have h8' := q4.nat h8
          have hB4 := hB3.next q4
          go_wp2_with fail
          refine (compare_any _ _ rest (k * 2 ^ i) _ h7' hv4).mono ?_
          rintro x w5 ⟨rfl, q5⟩
          have HH7 : Hid _ := q5.nat h7'
          have HH8 : Hid _ := q5.nat h8'
          have HHY : Hid _ := q5.nat hv4
          have hB5 := hB4.next q5
          clear h7 h8 h7' h8' hv4 hB3 hB4
          by_cases hc : k * 2 ^ i ≤ rest
          · have ec : cmpV rest (k * 2 ^ i) = 0 ∨ cmpV rest (k * 2 ^ i) = 1 := by
              unfold cmpV
              rw [if_neg (by omega)]
              split <;> simp
            have HC : Hid _ := hc
            have hrA : rest ≤ A := by have := HRQ.out; omega
            have HR1 : Hid (rest < cap) := Nat.lt_of_le_of_lt hrA HAC.out
            have HR2 : Hid (q + 1 * 2 ^ i < cap) := by
              refine Nat.lt_of_le_of_lt ?_ HAC.out
              have h1 : 1 * q ≤ k * q := Nat.mul_le_mul_right _ hk1
              have h2 : 1 * 2 ^ i ≤ k * 2 ^ i := Nat.mul_le_mul_right _ hk1
              have := HRQ.out
              omega
            clear hrA hc
            rcases ec with ec | ec
            all_goals
              rw [ec]
              clear ec
              go_wp2_with fail
              refine (minus_any _ _ rest (k * 2 ^ i) _ HH7.out HHY.out HR1.out HC.out).mono ?_
              rintro x w6 ⟨v6, rfl, hv6, q6⟩
              go_wp2_with fail
              refine (natof_nat 1 _ (by decide)).mono ?_
              rintro x w7 ⟨v7, rfl, hv7, q7⟩
              go_wp2_with fail
              refine (up_any _ 1 i _ hv7 (HC2.out i hi)).mono ?_
              rintro x w8 ⟨v8, rfl, hv8, q8⟩
              go_wp2_with fail
              refine (plus_any _ _ q (1 * 2 ^ i) _ ((((q6.trans q7).trans q8)).nat HH8.out) hv8 HR2.out).mono ?_
              rintro x w9 ⟨v9, rfl, hv9, q9⟩
              go_wp2_with fail
              go_roundg i
              case measure => go_light; omega
              case rel =>
                go_light
                refine ⟨rest - k * 2 ^ i, q + 1 * 2 ^ i, ((q7.trans q8).trans q9).nat hv6, hv9, ?_, div_step HLT.out HC.out, ?_, (((hB5.next q6).next q7).next q8).next q9⟩
                · have h1 := HRQ.out
                  have h2 := HC.out
                  rw [Nat.one_mul, Nat.mul_add]
                  omega
                · rcases Nat.eq_zero_or_pos i with h0 | h0
                  · exact Or.inl ⟨h0, by rw [h0]; rfl⟩
                  · exact Or.inr ⟨i - 1, by omega, by omega, congrArg (Value.int .i64) (by omega)⟩
          · have ec : cmpV rest (k * 2 ^ i) = -1 := by unfold cmpV; rw [if_pos (by omega)]
            rw [ec]
            clear ec
            go_wp2_with fail
            go_roundg i
            case measure => go_light; omega
            case rel =>
              go_light
              refine ⟨rest, q, HH7.out, HH8.out, HRQ.out, by omega, ?_, hB5⟩
              rcases Nat.eq_zero_or_pos i with h0 | h0
              · exact Or.inl ⟨h0, by rw [h0]; rfl⟩
              · exact Or.inr ⟨i - 1, by omega, by omega, congrArg (Value.int .i64) (by omega)⟩
end Go.Proofs.YtmgpaheobhfioaaDoor
/- What the reference's DivNum returns where one of the two is no finite number, or is 0. -/
namespace Go.Proofs.YtmgpaheobhfioaaDoor
open Go.RowKit

set_option maxHeartbeats 4000000 in
set_option maxRecDepth 1000000 in
theorem div_nan1 (va vb : Value) (y : RNum) (w : World) (hx : NumAt w va .nan) (hy : NumAt w vb y) :
    Calls Tryd.prog 63 #[va, vb] w fun e w' => ∃ v, e = .returned v ∧ NumAt w' v .nan ∧ Q w w' := by
  obtain ⟨b, e, m, rfl⟩ := hx
  obtain ⟨k, s, p, L, C, ee, mm, rfl⟩ := hy.made
  clear hy
  go_enter Tryd.func63, Tryd.ntmps63
  go_wp2_with fail
  refine bodyPost_ret (v := .agg #[.int .i64 0, .bool false, .slice none 0 0, .int .i64 0, .bool false]) (by simp [results, Tryd.results63, go_sem]) rfl ⟨_, rfl, ⟨_, _, _, rfl⟩, ?_⟩
  exact (((Q.refl w).cells _ _).cells _ _).cells _ _
set_option maxHeartbeats 4000000 in
set_option maxRecDepth 1000000 in
theorem div_nan2 (va vb : Value) (x : RNum) (w : World) (hx : NumAt w va x) (hy : NumAt w vb .nan) (hk : ∀ k s p L C e m, va = .agg #[.int .i64 k, .bool s, .slice p L C, .int .i64 e, .bool m] → k ≠ 0) :
    Calls Tryd.prog 63 #[va, vb] w fun e w' => ∃ v, e = .returned v ∧ NumAt w' v .nan ∧ Q w w' := by
  obtain ⟨b, e, m, rfl⟩ := hy
  obtain ⟨k, s, p, L, C, ee, mm, rfl⟩ := hx.made
  have hk0 : (k == 0) = false := by simpa using hk _ _ _ _ _ _ _ rfl
  clear hx hk
  go_enter Tryd.func63, Tryd.ntmps63
  go_wp2_with fail
  refine bodyPost_ret (v := .agg #[.int .i64 0, .bool false, .slice none 0 0, .int .i64 0, .bool false]) (by simp [results, Tryd.results63, go_sem]) rfl ⟨_, rfl, ⟨_, _, _, rfl⟩, ?_⟩
  exact (((Q.refl w).cells _ _).cells _ _).cells _ _
set_option maxHeartbeats 4000000 in
set_option maxRecDepth 1000000 in
theorem div_infinf (va vb : Value) (s t : Bool) (w : World) (hx : NumAt w va (.inf s)) (hy : NumAt w vb (.inf t)) :
    Calls Tryd.prog 63 #[va, vb] w fun e w' => ∃ v, e = .returned v ∧ NumAt w' v .nan ∧ Q w w' := by
  obtain ⟨e, m, rfl⟩ := hx
  obtain ⟨e', m', rfl⟩ := hy
  go_enter Tryd.func63, Tryd.ntmps63
  go_wp2_with fail
  refine bodyPost_ret (v := .agg #[.int .i64 0, .bool false, .slice none 0 0, .int .i64 0, .bool false]) (by simp [results, Tryd.results63, go_sem]) rfl ⟨_, rfl, ⟨_, _, _, rfl⟩, ?_⟩
  exact (((Q.refl w).cells _ _).cells _ _).cells _ _
set_option maxHeartbeats 4000000 in
set_option maxRecDepth 1000000 in
theorem div_inffin (va vb : Value) (s t : Bool) (n : Nat) (f : Int) (g : Bool) (w : World) (hx : NumAt w va (.inf s)) (hy : NumAt w vb (.fin t n f g)) :
    Calls Tryd.prog 63 #[va, vb] w fun e w' => ∃ v, e = .returned v ∧ NumAt w' v (.inf (s != t)) ∧ Q w w' := by
  obtain ⟨e, m, rfl⟩ := hx
  obtain ⟨nv, rfl, p, b, L, C, rfl, hn⟩ := hy
  go_enter Tryd.func63, Tryd.ntmps63
  go_wp2_with fail
  refine (zero_any _ (.inf s) _ ⟨_, _, rfl⟩).mono ?_
  rintro x w1 ⟨rfl, c1, rfl⟩
  rw [show zeroB (.inf s) = false from rfl]
  go_wp2_with fail
  refine bodyPost_ret (v := .agg #[.int .i64 1, .bool (s != t), .slice none 0 0, .int .i64 0, .bool false]) (by cases s <;> cases t <;> simp [results, Tryd.results63, go_sem]) rfl ⟨_, rfl, ⟨_, _, rfl⟩, ?_⟩
  exact ((((Q.refl w).cells _ _).cells _ _).cells _ _).cells _ _
set_option maxHeartbeats 4000000 in
set_option maxRecDepth 1000000 in
theorem div_fininf (va vb : Value) (s t : Bool) (n : Nat) (f : Int) (g : Bool) (w : World) (hx : NumAt w va (.fin s n f g)) (hy : NumAt w vb (.inf t)) :
    Calls Tryd.prog 63 #[va, vb] w fun e w' => ∃ v, e = .returned v ∧ NumAt w' v (.fin (s != t) 0 0 false) ∧ Q w w' := by
  obtain ⟨e, m, rfl⟩ := hy
  have HX : Hid _ := hx
  obtain ⟨nv, rfl, p, b, L, C, rfl, hn⟩ := hx
  clear hn
  cases hZ : zeroB (.fin s n f g)
  · have HZ : Hid _ := hZ
    clear hZ
    go_enter Tryd.func63, Tryd.ntmps63
    go_wp2_with fail
    refine (zero_any _ (.fin s n f g) _ (((((Q.refl w).cells _ _).cells _ _).cells _ _) |>.num HX.out)).mono ?_
    rintro x w1 ⟨rfl, c1, rfl⟩
    rw [HZ.out]
    go_wp2_with fail
    refine (zero_any _ (.inf t) _ ⟨_, _, rfl⟩).mono ?_
    rintro x w1 ⟨rfl, c2, rfl⟩
    rw [show zeroB (.inf t) = false from rfl]
    go_wp2_with fail
    refine bodyPost_ret (v := .agg #[.int .i64 2, .bool (s != t), .slice none 0 0, .int .i64 0, .bool false]) (by cases s <;> cases t <;> simp [results, Tryd.results63, go_sem]) rfl ⟨_, rfl, ⟨_, rfl, nat_nil _⟩, ?_⟩
    exact (((((Q.refl w).cells _ _).cells _ _).cells _ _).cells _ _).cells _ _
  · have HZ : Hid _ := hZ
    clear hZ
    go_enter Tryd.func63, Tryd.ntmps63
    go_wp2_with fail
    refine (zero_any _ (.fin s n f g) _ (((((Q.refl w).cells _ _).cells _ _).cells _ _) |>.num HX.out)).mono ?_
    rintro x w1 ⟨rfl, c1, rfl⟩
    rw [HZ.out]
    go_wp2_with fail
    refine (zero_any _ (.inf t) _ ⟨_, _, rfl⟩).mono ?_
    rintro x w1 ⟨rfl, c2, rfl⟩
    rw [show zeroB (.inf t) = false from rfl]
    go_wp2_with fail
    refine (zero_any _ (.inf t) _ ⟨_, _, rfl⟩).mono ?_
    rintro x w1 ⟨rfl, c3, rfl⟩
    rw [show zeroB (.inf t) = false from rfl]
    go_wp2_with fail
    refine bodyPost_ret (v := .agg #[.int .i64 2, .bool (s != t), .slice none 0 0, .int .i64 0, .bool false]) (by cases s <;> cases t <;> simp [results, Tryd.results63, go_sem]) rfl ⟨_, rfl, ⟨_, rfl, nat_nil _⟩, ?_⟩
    exact ((((((Q.refl w).cells _ _).cells _ _).cells _ _).cells _ _).cells _ _).cells _ _
set_option maxHeartbeats 4000000 in
set_option maxRecDepth 1000000 in
theorem div_nought (va vb : Value) (s t : Bool) (n k : Nat) (e f : Int) (g h : Bool) (w : World) (hx : NumAt w va (.fin s n e g)) (hy : NumAt w vb (.fin t k f h)) (hz : zeroB (.fin s n e g) = true ∨ zeroB (.fin t k f h) = true) :
    Calls Tryd.prog 63 #[va, vb] w fun y w' => ∃ v, y = .returned v ∧ NumAt w' v (if zeroB (.fin t k f h) = true then (if zeroB (.fin s n e g) = true then .nan else .inf (s != t)) else .fin (s != t) 0 0 false) ∧ Q w w' := by
  have HX : Hid _ := hx
  have HY : Hid _ := hy
  obtain ⟨nv, rfl, p, b, L, C, rfl, hn⟩ := hx
  obtain ⟨kv, rfl, p', b', L', C', rfl, hk⟩ := hy
  clear hn hk
  cases hA : zeroB (.fin s n e g) <;> cases hB : zeroB (.fin t k f h)
  · rw [hA, hB] at hz; simp at hz
  · have HA : Hid _ := hA
    have HB : Hid _ := hB
    clear hA hB hz
    rw [if_pos rfl, if_neg Bool.false_ne_true]
    go_enter Tryd.func63, Tryd.ntmps63
    go_wp2_with fail
    refine (zero_any _ (.fin s n e g) _ (((((Q.refl w).cells _ _).cells _ _).cells _ _) |>.num HX.out)).mono ?_
    rintro x w1 ⟨rfl, c1, rfl⟩
    rw [HA.out]
    go_wp2_with fail
    refine (zero_any _ (.fin t k f h) _ ((((((Q.refl w).cells _ _).cells _ _).cells _ _).cells _ _) |>.num HY.out)).mono ?_
    rintro x w1 ⟨rfl, c2, rfl⟩
    rw [HB.out]
    go_wp2_with fail
    refine bodyPost_ret (v := .agg #[.int .i64 1, .bool (s != t), .slice none 0 0, .int .i64 0, .bool false]) (by cases s <;> cases t <;> simp [results, Tryd.results63, go_sem]) rfl ⟨_, rfl, ⟨_, _, rfl⟩, ?_⟩
    exact (((((Q.refl w).cells _ _).cells _ _).cells _ _).cells _ _).cells _ _
  · have HA : Hid _ := hA
    have HB : Hid _ := hB
    clear hA hB hz
    rw [if_neg Bool.false_ne_true]
    go_enter Tryd.func63, Tryd.ntmps63
    go_wp2_with fail
    refine (zero_any _ (.fin s n e g) _ (((((Q.refl w).cells _ _).cells _ _).cells _ _) |>.num HX.out)).mono ?_
    rintro x w1 ⟨rfl, c1, rfl⟩
    rw [HA.out]
    go_wp2_with fail
    refine (zero_any _ (.fin t k f h) _ ((((((Q.refl w).cells _ _).cells _ _).cells _ _).cells _ _) |>.num HY.out)).mono ?_
    rintro x w1 ⟨rfl, c2, rfl⟩
    rw [HB.out]
    go_wp2_with fail
    refine (zero_any _ (.fin t k f h) _ (((((((Q.refl w).cells _ _).cells _ _).cells _ _).cells _ _).cells _ _) |>.num HY.out)).mono ?_
    rintro x w1 ⟨rfl, c3, rfl⟩
    rw [HB.out]
    go_wp2_with fail
    refine (zero_any _ (.fin s n e g) _ ((((((((Q.refl w).cells _ _).cells _ _).cells _ _).cells _ _).cells _ _).cells _ _) |>.num HX.out)).mono ?_
    rintro x w1 ⟨rfl, c4, rfl⟩
    rw [HA.out]
    go_wp2_with fail
    refine bodyPost_ret (v := .agg #[.int .i64 2, .bool (s != t), .slice none 0 0, .int .i64 0, .bool false]) (by cases s <;> cases t <;> simp [results, Tryd.results63, go_sem]) rfl ⟨_, rfl, ⟨_, rfl, nat_nil _⟩, ?_⟩
    exact (((((((Q.refl w).cells _ _).cells _ _).cells _ _).cells _ _).cells _ _).cells _ _).cells _ _
  · have HA : Hid _ := hA
    have HB : Hid _ := hB
    clear hA hB hz
    rw [if_pos rfl, if_pos rfl]
    go_enter Tryd.func63, Tryd.ntmps63
    go_wp2_with fail
    refine (zero_any _ (.fin s n e g) _ (((((Q.refl w).cells _ _).cells _ _).cells _ _) |>.num HX.out)).mono ?_
    rintro x w1 ⟨rfl, c1, rfl⟩
    rw [HA.out]
    go_wp2_with fail
    refine (zero_any _ (.fin t k f h) _ ((((((Q.refl w).cells _ _).cells _ _).cells _ _).cells _ _) |>.num HY.out)).mono ?_
    rintro x w1 ⟨rfl, c2, rfl⟩
    rw [HB.out]
    go_wp2_with fail
    refine bodyPost_ret (v := .agg #[.int .i64 0, .bool false, .slice none 0 0, .int .i64 0, .bool false]) (by simp [results, Tryd.results63, go_sem]) rfl ⟨_, rfl, ⟨_, _, _, rfl⟩, ?_⟩
    exact (((((Q.refl w).cells _ _).cells _ _).cells _ _).cells _ _).cells _ _
end Go.Proofs.YtmgpaheobhfioaaDoor
/- What the reference's DivNum and Div return of whatever samples. -/
namespace Go.Proofs.YtmgpaheobhfioaaDoor
open Go.RowKit

/-- The quotient, cut behind its digits, and whether something is left. -/
def divR : RNum → RNum → RNum
  | ⟨none⟩, _ => .nan
  | ⟨some (.inl _)⟩, ⟨none⟩ => .nan
  | ⟨some (.inr _)⟩, ⟨none⟩ => .nan
  | ⟨some (.inl _)⟩, ⟨some (.inl _)⟩ => .nan
  | ⟨some (.inl s)⟩, ⟨some (.inr (t, _))⟩ => .inf (s != t)
  | ⟨some (.inr (s, _))⟩, ⟨some (.inl t)⟩ => .fin (s != t) 0 0 false
  | ⟨some (.inr (s, n, e, m))⟩, ⟨some (.inr (t, k, f, g))⟩ =>
    if zeroB (.fin s n e m) = true ∨ zeroB (.fin t k f g) = true then (if zeroB (.fin t k f g) = true then (if zeroB (.fin s n e m) = true then .nan else .inf (s != t)) else .fin (s != t) 0 0 false)
    else .fin (s != t) (n * 2 ^ shV n k / k) (e - f - (shV n k : Int)) (!decide (n * 2 ^ shV n k % k = 0))

theorem divnum_any (va vb : Value) (x y : RNum) (w : World) (hx : NumAt w va x) (hy : NumAt w vb y) (fx : few x) (fy : few y) :
    Calls Tryd.prog 63 #[va, vb] w fun e w' => ∃ v, e = .returned v ∧ NumAt w' v (divR x y) ∧ Q w w' := by
  cases x using RNum.rec3 with
  | nan => exact div_nan1 va vb y w hx hy
  | inf s =>
    cases y using RNum.rec3 with
    | nan => exact div_nan2 va vb _ w hx hy (fun k s' p L C e m h => by
        obtain ⟨e', m', h'⟩ := hx
        rw [h'] at h
        intro hk
        rw [hk] at h
        simp at h)
    | inf t => exact div_infinf va vb s t w hx hy
    | fin t n f g => exact div_inffin va vb s t n f g w hx hy
  | fin s n e m =>
    cases y using RNum.rec3 with
    | nan => exact div_nan2 va vb _ w hx hy (fun k s' p L C e' m' h => by
        obtain ⟨nv, h', hn⟩ := hx
        rw [h'] at h
        intro hk
        rw [hk] at h
        simp at h)
    | inf t => exact div_fininf va vb s t n e m w hx hy
    | fin t k f g =>
      show Calls Tryd.prog 63 #[va, vb] w fun x w' => ∃ v, x = .returned v ∧ NumAt w' v (if zeroB (.fin s n e m) = true ∨ zeroB (.fin t k f g) = true then (if zeroB (.fin t k f g) = true then (if zeroB (.fin s n e m) = true then .nan else .inf (s != t)) else .fin (s != t) 0 0 false) else .fin (s != t) (n * 2 ^ shV n k / k) (e - f - (shV n k : Int)) (!decide (n * 2 ^ shV n k % k = 0))) ∧ Q w w'
      by_cases hz : zeroB (.fin s n e m) = true ∨ zeroB (.fin t k f g) = true
      · rw [if_pos hz]; exact div_nought va vb s t n k e f m g w hx hy hz
      · rw [if_neg hz]
        obtain ⟨a1, a2, a3, rfl⟩ := fx
        obtain ⟨b1, b2, b3, rfl⟩ := fy
        obtain ⟨nv, rfl, hn⟩ := hx
        obtain ⟨kv, rfl, hk⟩ := hy
        have n0 : n ≠ 0 := fun c => hz (Or.inl (by rw [c]; rfl))
        have k0 : k ≠ 0 := fun c => hz (Or.inr (by rw [c]; rfl))
        exact div_fin s t nv kv n k e f w hn hk n0 k0 a1 (by omega) (by omega) b1 (by omega) (by omega)

/-- The quotient has 60 digits and more. -/
theorem quo_big {n k : Nat} (n0 : n ≠ 0) (k0 : k ≠ 0) : 2 ^ 59 ≤ n * 2 ^ shV n k / k := by
  have hA := blen_mul_pow n0 (shV n k)
  have h1 := blen_lt k
  have h2 : 2 ^ (n * 2 ^ shV n k).log2 ≤ n * 2 ^ shV n k := Nat.log2_self_le (Nat.mul_ne_zero n0 (by have := Nat.two_pow_pos (shV n k); omega))
  have h3 : (n * 2 ^ shV n k).log2 + 1 = blen n + shV n k := by
    rw [← hA]; unfold blen
    rw [if_neg (Nat.mul_ne_zero n0 (by have := Nat.two_pow_pos (shV n k); omega))]
  rw [Nat.le_div_iff_mul_le (by omega)]
  have h4 : 2 ^ 59 * k ≤ 2 ^ 59 * 2 ^ blen k := Nat.mul_le_mul_left _ (by omega)
  rw [← Nat.pow_add] at h4
  have h5 : 2 ^ (59 + blen k) ≤ 2 ^ (n * 2 ^ shV n k).log2 := Nat.pow_le_pow_right (by decide) (by unfold shV at h3 ⊢; omega)
  omega
theorem divR_fits {x y : RNum} (fx : few x) (fy : few y) : fits (divR x y) := by
  cases x using RNum.rec3 with
  | nan => exact trivial
  | inf s => cases y using RNum.rec3 <;> exact trivial
  | fin s n e m =>
    cases y using RNum.rec3 with
    | nan => exact trivial
    | inf t => exact ⟨by decide, by decide, by decide, fun h => by cases h⟩
    | fin t k f g =>
      show fits (if zeroB (.fin s n e m) = true ∨ zeroB (.fin t k f g) = true then (if zeroB (.fin t k f g) = true then (if zeroB (.fin s n e m) = true then .nan else .inf (s != t)) else .fin (s != t) 0 0 false) else .fin (s != t) (n * 2 ^ shV n k / k) (e - f - (shV n k : Int)) (!decide (n * 2 ^ shV n k % k = 0)))
      obtain ⟨a1, a2, a3, rfl⟩ := fx
      obtain ⟨b1, b2, b3, rfl⟩ := fy
      by_cases hz : zeroB (.fin s n e false) = true ∨ zeroB (.fin t k f false) = true
      · rw [if_pos hz]
        split
        · split <;> exact trivial
        · exact ⟨by decide, by decide, by decide, fun h => by cases h⟩
      · rw [if_neg hz]
        have n0 : n ≠ 0 := fun c => hz (Or.inl (by rw [c]; rfl))
        have k0 : k ≠ 0 := fun c => hz (Or.inr (by rw [c]; rfl))
        have hq := quo_big n0 k0
        have hsh : shV n k ≤ 560 := by unfold shV; omega
        have hle : n * 2 ^ shV n k / k ≤ n * 2 ^ shV n k := Nat.div_le_self _ _
        have hbl : blen (n * 2 ^ shV n k / k) ≤ blen n + shV n k := blen_le (Nat.lt_of_le_of_lt hle (by rw [← blen_mul_pow n0]; exact blen_lt _))
        have hp : (0 : Nat) < 2 ^ 59 := by decide
        have hne : n * 2 ^ shV n k / k ≠ 0 := by omega
        refine ⟨by omega, by omega, by omega, fun _ => ⟨hne, ?_⟩⟩
        have hl : 59 ≤ (n * 2 ^ shV n k / k).log2 := (Nat.le_log2 hne).2 hq
        unfold lastOf
        rw [single_frac]
        omega

end Go.Proofs.YtmgpaheobhfioaaDoor
/- What the functions of package bits that package arith calls return: class, NaN, made, key, least, greatest; what was in memory stays as it was. -/
namespace Go.Proofs.YtmgpaheobhfioaaDoor
open Go.RowKit

theorem and_lo (s : Int) (h0 : 0 ≤ s) (h1 : s < 2147483648) : bits .and .u32 s 2147483648 = 0 := by go_bits2
theorem and_hi (s : Int) (h0 : 2147483648 ≤ s) (h1 : s ≤ 4294967295) : bits .and .u32 s 2147483648 = 2147483648 := by go_bits2
theorem and_255 (s : Int) (h0 : 0 ≤ s) (h1 : s ≤ 4294967295) : bits .and .u32 s 255 = s % 256 := by go_bits2
theorem and_frac (s : Int) (h0 : 0 ≤ s) (h1 : s ≤ 4294967295) : bits .and .u32 s 8388607 = s % 8388608 := by go_bits2

/-- Exponent and fraction of a sample. -/
def expV (s : Int) : Int := s / 8388608 % 256
def fracV (s : Int) : Int := s % 8388608
def negB (s : Int) : Bool := decide (2147483648 ≤ s)
theorem expV_bd (s : Int) : 0 ≤ expV s ∧ expV s ≤ 255 := by unfold expV; omega
theorem fracV_bd (s : Int) : 0 ≤ fracV s ∧ fracV s ≤ 8388607 := by unfold fracV; omega
/-- The class by number: 1 NaN, 2 infinity, 3 normal, 4 small, 5 nought. -/
def classV (s : Int) : Int := if expV s = 255 then (if fracV s = 0 then 2 else 1) else if expV s = 0 then (if fracV s = 0 then 5 else 4) else 3
theorem neg_bit {s : Int} (h0 : 0 ≤ s) (h1 : s ≤ 4294967295) : (bits .and .u32 s 2147483648 != 0) = negB s := by
  unfold negB
  by_cases h : s < 2147483648
  · rw [and_lo s h0 h]; simp; omega
  · rw [and_hi s (by omega) h1]; simp; omega
theorem exp_bits {s : Int} (h0 : 0 ≤ s) (h1 : s ≤ 4294967295) : bits .and .u32 (s / 8388608) 255 = expV s := and_255 _ (by omega) (by omega)
theorem frac_bits {s : Int} (h0 : 0 ≤ s) (h1 : s ≤ 4294967295) : bits .and .u32 s 8388607 = fracV s := and_frac _ h0 h1
theorem classV_1 {s : Int} (h : expV s = 255) (g : ¬ fracV s = 0) : classV s = 1 := by unfold classV; rw [if_pos h, if_neg g]
theorem classV_2 {s : Int} (h : expV s = 255) (g : fracV s = 0) : classV s = 2 := by unfold classV; rw [if_pos h, if_pos g]
theorem classV_3 {s : Int} (h : ¬ expV s = 255) (g : ¬ expV s = 0) : classV s = 3 := by unfold classV; rw [if_neg h, if_neg g]
theorem classV_4 {s : Int} (h : expV s = 0) (g : ¬ fracV s = 0) : classV s = 4 := by unfold classV; rw [if_neg (by omega), if_pos h, if_neg g]
theorem classV_5 {s : Int} (h : expV s = 0) (g : fracV s = 0) : classV s = 5 := by unfold classV; rw [if_neg (by omega), if_pos h, if_pos g]

set_option maxHeartbeats 400000 in
theorem makeup_any (s : Int) (h0 : 0 ≤ s) (h1 : s ≤ 4294967295) (w : World) :
    Calls Tryd.prog 88 #[.int .u32 s] w fun e w' => e = .returned (.agg #[.bool (negB s), .int .u32 (expV s), .int .u32 (fracV s)]) ∧ Q w w' := by
  have e1 := neg_bit h0 h1
  have e2 := exp_bits h0 h1
  have e3 := frac_bits h0 h1
  go_enter Tryd.func88, Tryd.ntmps88
  go_wp2
  exact bodyPost_ret (v := .agg #[.bool (negB s), .int .u32 (expV s), .int .u32 (fracV s)]) (by simp [results, Tryd.results88, go_sem]) rfl ⟨rfl, (Q.refl w).cells _ _⟩

set_option maxHeartbeats 400000 in
theorem class_any (s : Int) (h0 : 0 ≤ s) (h1 : s ≤ 4294967295) (w : World) :
    Calls Tryd.prog 84 #[.int .u32 s] w fun e w' => e = .returned (.int .i64 (classV s)) ∧ Q w w' := by
  obtain ⟨x0, x1⟩ := expV_bd s
  obtain ⟨f0, f1⟩ := fracV_bd s
  go_enter Tryd.func84, Tryd.ntmps84
  go_wp2_with fail
  refine (makeup_any s h0 h1 _).mono ?_
  rintro e w1 ⟨rfl, q1⟩
  go_wp2_with fail
  all_goals
    go_ret
    exact ⟨ret_int (by first | exact (classV_1 (by assumption) (by assumption)).symm | exact (classV_2 (by assumption) (by assumption)).symm | exact (classV_3 (by assumption) (by assumption)).symm | exact (classV_4 (by assumption) (by assumption)).symm | exact (classV_5 (by assumption) (by assumption)).symm), q1.cells _ _⟩

theorem class_nan (a : Nat) : (classV (a : Int) == 1) = nanN a := by
  unfold nanN classV expV fracV
  by_cases h1 : (a : Int) / 8388608 % 256 = 255
  · rw [if_pos h1]
    by_cases h2 : (a : Int) % 8388608 = 0
    · rw [if_pos h2, decide_eq_false (by omega)]; rfl
    · rw [if_neg h2, decide_eq_true (by omega)]; rfl
  · rw [if_neg h1, decide_eq_false (by omega)]
    split
    · split <;> rfl
    · rfl

set_option maxHeartbeats 400000 in
theorem isnan_any (a : Nat) (ha : a < 4294967296) (w : World) :
    Calls Tryd.prog 81 #[.int .u32 a] w fun e w' => e = .returned (.bool (nanN a)) ∧ Q w w' := by
  have e1 := class_nan a
  go_enter Tryd.func81, Tryd.ntmps81
  go_wp2_with fail
  refine (class_any a (by omega) (by omega) _).mono ?_
  rintro e w1 ⟨rfl, q1⟩
  go_wp2_with fail
  go_ret
  exact ⟨rfl, q1⟩

/-- A sample, or the made NaN. -/
def madeN (a : Nat) : Nat := if nanN a = true then 2143289344 else a
theorem madeN_of {a : Nat} (h : nanN a = false) : madeN a = a := by unfold madeN; rw [h]; rfl
theorem madeN_nan {a : Nat} (h : nanN a = true) : madeN a = 2143289344 := by unfold madeN; rw [h]; rfl
set_option maxHeartbeats 400000 in
theorem made_any (a : Nat) (ha : a < 4294967296) (w : World) :
    Calls Tryd.prog 78 #[.int .u32 a] w fun e w' => e = .returned (.int .u32 (madeN a : Nat)) ∧ Q w w' := by
  cases h : nanN a
  · rw [madeN_of h]
    go_enter Tryd.func78, Tryd.ntmps78
    go_wp2_with fail
    refine (isnan_any a ha _).mono ?_
    rintro e w1 ⟨rfl, q1⟩
    go_wp2_with fail
    go_ret
    exact ⟨rfl, q1⟩
  · rw [madeN_nan h]
    go_enter Tryd.func78, Tryd.ntmps78
    go_wp2_with fail
    refine (isnan_any a ha _).mono ?_
    rintro e w1 ⟨rfl, q1⟩
    go_wp2_with fail
    go_ret
    exact ⟨rfl, q1⟩

end Go.Proofs.YtmgpaheobhfioaaDoor
/- What package arith's Add, Sub, Mul, Div, Half, Less, Equal, Least, Greatest and Wide return, in the model's own words of floats; what was in memory stays as it was. -/
namespace Go.Proofs.YtmgpaheobhfioaaDoor
open Go.RowKit

theorem f32from (a : Nat) (w : World) : (callFunc 80 #[.int .u32 (a : Int)]).run Tryd.prog w = .ok (.value (.float .f32 a)) w := by
  rw [run_callFunc_extern (e := Extern.MathFloatBits.float32frombits) Tryd.func80 (by kernel_rfl) (by kernel_rfl) (by kernel_rfl) (by kernel_rfl)]
  rfl
theorem f32bits (x : Nat) (w : World) : (callFunc 79 #[.float .f32 x]).run Tryd.prog w = .ok (.value (.int .u32 (x : Int))) w := by
  rw [run_callFunc_extern (e := Extern.MathFloatBits.float32bits) Tryd.func79 (by kernel_rfl) (by kernel_rfl) (by kernel_rfl) (by kernel_rfl)]
  rfl
theorem f64bits (x : Nat) (w : World) : (callFunc 67 #[.float .f64 x]).run Tryd.prog w = .ok (.value (.int .u64 (x : Int))) w := by
  rw [run_callFunc_extern (e := Extern.MathFloatBits.float64bits) Tryd.func67 (by kernel_rfl) (by kernel_rfl) (by kernel_rfl) (by kernel_rfl)]
  rfl
theorem f64from (a : Nat) (w : World) : (callFunc 66 #[.int .u64 (a : Int)]).run Tryd.prog w = .ok (.value (.float .f64 a)) w := by
  rw [run_callFunc_extern (e := Extern.MathFloatBits.float64frombits) Tryd.func66 (by kernel_rfl) (by kernel_rfl) (by kernel_rfl) (by kernel_rfl)]
  rfl
theorem same32 (x : Nat) (w : World) : (convert 103 103 (.float .f32 x)).run Tryd.prog w = .ok (.float .f32 x) w :=
  run_convert_float_float w 103 103 .f32 .f32 x x (by kernel_rfl) Tryd.underlying103 rfl

set_option maxHeartbeats 400000 in
theorem number_any (a : Nat) (w : World) : Calls Tryd.prog 65 #[.int .u32 (a : Int)] w fun e w' => e = .returned (.float .f32 a) ∧ w' = w := by
  have l1 := f32from
  go_enter Tryd.func65, Tryd.ntmps65
  go_wp2_with fail
  go_ret
  exact ⟨rfl, rfl⟩

set_option maxHeartbeats 400000 in
theorem sample_any (x : Nat) (hx : x < 4294967296) (w : World) : Calls Tryd.prog 64 #[.float .f32 x] w fun e w' => e = .returned (.int .u32 (madeN x : Nat)) ∧ Q w w' := by
  have l1 := f32bits
  go_enter Tryd.func64, Tryd.ntmps64
  go_wp2_with fail
  refine (made_any x hx _).mono ?_
  rintro e w1 ⟨rfl, q1⟩
  go_wp2_with fail
  go_ret
  exact ⟨rfl, q1⟩

set_option maxHeartbeats 400000 in
theorem cadd_any (a b : Nat) (w : World) : Calls Tryd.prog 50 #[.int .u32 (a : Int), .int .u32 (b : Int)] w fun e w' => e = .returned (.int .u32 (toldD ((Ieee.single.read a).sum (Ieee.single.read b)) : Nat)) ∧ Q w w' := by
  cases hd : (Ieee.single.read a).sum (Ieee.single.read b) with
  | none =>
    have hf : floatBits .add .f32 a b = none := by
      show ((Ieee.single.read a).sum (Ieee.single.read b)).map Ieee.single.write = none
      rw [hd]; rfl
    have l1 := fun w => run_arith_none .add (by simp) 103 .f32 a b hf Tryd.prog w
    have l2 := same32
    clear hd hf
    go_enter Tryd.func50, Tryd.ntmps50
    go_wp2_with fail
    refine (number_any a _).mono ?_
    rintro e w1 ⟨rfl, rfl⟩
    go_wp2_with fail
    refine (number_any b _).mono ?_
    rintro e w1 ⟨rfl, rfl⟩
    go_wp2_with fail
    refine (sample_any _ (nanw32 a b _).2 _).mono ?_
    rintro e w1 ⟨rfl, q1⟩
    go_wp2_with fail
    go_ret
    exact ⟨ret_int (by rw [madeN_nan (nanw32 a b _).1]; rfl), ((Q.refl _).drew.trans q1)⟩
  | some d =>
    have hf : floatBits .add .f32 a b = some (Ieee.single.write d) := by
      show ((Ieee.single.read a).sum (Ieee.single.read b)).map Ieee.single.write = _
      rw [hd]; rfl
    have l1 := fun w => run_float_arith (P := Tryd.prog) w .add 103 .f32 a b _ hf
    have l2 := same32
    have hn : Hid (d.isNaN = false) := sum_num hd
    clear hd hf
    go_enter Tryd.func50, Tryd.ntmps50
    go_wp2_with fail
    refine (number_any a _).mono ?_
    rintro e w1 ⟨rfl, rfl⟩
    go_wp2_with fail
    refine (number_any b _).mono ?_
    rintro e w1 ⟨rfl, rfl⟩
    go_wp2_with fail
    refine (sample_any _ (write32_lt d) _).mono ?_
    rintro e w1 ⟨rfl, q1⟩
    go_wp2_with fail
    go_ret
    exact ⟨ret_int (by rw [madeN_of (nanN_write hn.out), toldD_some hn.out]), q1⟩

set_option maxHeartbeats 400000 in
theorem csub_any (a b : Nat) (w : World) : Calls Tryd.prog 51 #[.int .u32 (a : Int), .int .u32 (b : Int)] w fun e w' => e = .returned (.int .u32 (toldD ((Ieee.single.read a).sum (Ieee.single.read b).opposite) : Nat)) ∧ Q w w' := by
  cases hd : (Ieee.single.read a).sum (Ieee.single.read b).opposite with
  | none =>
    have hf : floatBits .sub .f32 a b = none := by
      show ((Ieee.single.read a).sum (Ieee.single.read b).opposite).map Ieee.single.write = none
      rw [hd]; rfl
    have l1 := fun w => run_arith_none .sub (by simp) 103 .f32 a b hf Tryd.prog w
    have l2 := same32
    clear hd hf
    go_enter Tryd.func51, Tryd.ntmps51
    go_wp2_with fail
    refine (number_any a _).mono ?_
    rintro e w1 ⟨rfl, rfl⟩
    go_wp2_with fail
    refine (number_any b _).mono ?_
    rintro e w1 ⟨rfl, rfl⟩
    go_wp2_with fail
    refine (sample_any _ (nanw32 a b _).2 _).mono ?_
    rintro e w1 ⟨rfl, q1⟩
    go_wp2_with fail
    go_ret
    exact ⟨ret_int (by rw [madeN_nan (nanw32 a b _).1]; rfl), ((Q.refl _).drew.trans q1)⟩
  | some d =>
    have hf : floatBits .sub .f32 a b = some (Ieee.single.write d) := by
      show ((Ieee.single.read a).sum (Ieee.single.read b).opposite).map Ieee.single.write = _
      rw [hd]; rfl
    have l1 := fun w => run_float_arith (P := Tryd.prog) w .sub 103 .f32 a b _ hf
    have l2 := same32
    have hn : Hid (d.isNaN = false) := sum_num hd
    clear hd hf
    go_enter Tryd.func51, Tryd.ntmps51
    go_wp2_with fail
    refine (number_any a _).mono ?_
    rintro e w1 ⟨rfl, rfl⟩
    go_wp2_with fail
    refine (number_any b _).mono ?_
    rintro e w1 ⟨rfl, rfl⟩
    go_wp2_with fail
    refine (sample_any _ (write32_lt d) _).mono ?_
    rintro e w1 ⟨rfl, q1⟩
    go_wp2_with fail
    go_ret
    exact ⟨ret_int (by rw [madeN_of (nanN_write hn.out), toldD_some hn.out]), q1⟩

end Go.Proofs.YtmgpaheobhfioaaDoor
