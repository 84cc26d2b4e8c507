/- What the reference's small functions of a form return: F32, top, bias, sign, Made. -/
import Derived.Test.YtdempklpmggdoaaG748b88e9
import Derived.RegionTactic
import Derived.ChangeAlike
import Derived.Deep.QuietTactic
import Derived.BigQuiet
import Derived.Deep.RegionWith
import Derived.Deep.RegionHeld3
import Derived.Test.YtdempklpmggdoaaG03111852
namespace Go.Proofs.Ytdempklpmggdoaa
open Go.RowKit

/-- The sign's bit. -/
def signV (d neg : Bool) : Int := if neg = true then (if d = true then 9223372036854775808 else 2147483648) else 0
end Go.Proofs.Ytdempklpmggdoaa
/- Numbers of the reference: how they lie in memory; what Of returns of a word. -/
namespace Go.Proofs.Ytdempklpmggdoaa
open Go.RowKit

/-- A number of the reference. -/
structure RNum where
  it : Option (Bool ⊕ (Bool × Nat × Int × Bool))
abbrev RNum.nan : RNum := ⟨none⟩
abbrev RNum.inf (s : Bool) : RNum := ⟨some (.inl s)⟩
abbrev RNum.fin (s : Bool) (n : Nat) (e : Int) (m : Bool) : RNum := ⟨some (.inr (s, n, e, m))⟩
theorem RNum.rec3 {motive : RNum → Prop} (nan : motive .nan) (inf : ∀ s, motive (.inf s)) (fin : ∀ s n e m, motive (.fin s n e m)) (x : RNum) : motive x := by
  obtain ⟨_ | s | ⟨s, n, e, m⟩⟩ := x
  · exact nan
  · exact inf s
  · exact fin s n e m

/-- The struct v is the number x. -/
def NumAt (w : World) (v : Value) : RNum → Prop
  | ⟨none⟩ => ∃ b e m, v = .agg #[.int .i64 0, .bool b, .slice none 0 0, .int .i64 e, .bool m]
  | ⟨some (.inl s)⟩ => ∃ e m, v = .agg #[.int .i64 1, .bool s, .slice none 0 0, .int .i64 e, .bool m]
  | ⟨some (.inr (s, n, e, m))⟩ => ∃ nv, v = .agg #[.int .i64 2, .bool s, nv, .int .i64 e, .bool m] ∧ NatAt w nv n
theorem Q.num {a b : World} (h : Q a b) {v : Value} {x : RNum} (hx : NumAt a v x) : NumAt b v x := by
  cases x using RNum.rec3 with
  | nan => exact hx
  | inf s => exact hx
  | fin s n e m =>
    obtain ⟨nv, e, hn⟩ := hx
    exact ⟨nv, e, h.nat hn⟩

/-- What a word stands for. -/
def numOf (f : Ieee.Format) (b : Nat) : RNum :=
  match f.read b with
  | .nan .. => .nan
  | .infinity s => .inf s
  | .number s m p => .fin s m p false

theorem single_sign : Ieee.single.signWeight = 2147483648 := by decide
theorem single_binade : Ieee.single.binade = 8388608 := by decide
theorem single_inf : Ieee.single.infRung = 2139095040 := by decide
theorem single_least : Ieee.single.leastPlace = -149 := by decide
theorem single_frac : Ieee.single.fractionBits = 23 := rfl
theorem double_sign : Ieee.double.signWeight = 9223372036854775808 := by decide
theorem double_binade : Ieee.double.binade = 4503599627370496 := by decide
theorem double_inf : Ieee.double.infRung = 9218868437227405312 := by decide
theorem double_least : Ieee.double.leastPlace = -1074 := by decide
theorem double_frac : Ieee.double.fractionBits = 52 := rfl

theorem numOf_nan {b : Nat} (h1 : b / 8388608 % 256 = 255) (h2 : b % 8388608 ≠ 0) : numOf Ieee.single b = .nan := by
  unfold numOf Ieee.Format.read
  simp only [single_sign, single_binade, single_inf, single_least]
  rw [if_neg (by omega), if_neg (by omega), if_neg (by omega)]
theorem numOf_inf {b : Nat} (h1 : b / 8388608 % 256 = 255) (h2 : b % 8388608 = 0) : numOf Ieee.single b = .inf (b / 2147483648 % 2 == 1) := by
  unfold numOf Ieee.Format.read
  simp only [single_sign, single_binade, single_inf, single_least]
  rw [if_neg (by omega), if_neg (by omega), if_pos (by omega)]
theorem numOf_small {b : Nat} (h1 : b / 8388608 % 256 = 0) : numOf Ieee.single b = .fin (b / 2147483648 % 2 == 1) (b % 8388608) (-149) false := by
  unfold numOf Ieee.Format.read
  simp only [single_sign, single_binade, single_inf, single_least]
  rw [if_pos (by omega)]
  have : b % 2147483648 = b % 8388608 := by omega
  rw [this]
theorem numOf_norm {b : Nat} (h1 : b / 8388608 % 256 ≠ 0) (h2 : b / 8388608 % 256 ≠ 255) :
    numOf Ieee.single b = .fin (b / 2147483648 % 2 == 1) (b % 8388608 + 8388608) (((b / 8388608 % 256 : Nat) : Int) - 150) false := by
  unfold numOf Ieee.Format.read
  simp only [single_sign, single_binade, single_inf, single_least]
  rw [if_neg (by omega), if_pos (by omega)]
  have e1 : 8388608 + b % 2147483648 % 8388608 = b % 8388608 + 8388608 := by omega
  have e2 : (-149 : Int) + ((b % 2147483648 / 8388608 - 1 : Nat) : Int) = ((b / 8388608 % 256 : Nat) : Int) - 150 := by omega
  rw [e1, e2]

theorem u64_and1 {x : Nat} (h : x < 18446744073709551616) : bits .and .u64 (x : Int) 1 = ((x % 2 : Nat) : Int) := by
  rw [show (1 : Int) = ((1 : Nat) : Int) from rfl, u64_and_nat _ _ h (by decide), Nat.and_one_is_mod]

/-- The bits of a binary32 word among 64. -/
theorem of_bits32 {b : Nat} (hb : b < 4294967296) :
    bits .and .u64 ((b : Int) / 2147483648) 1 = ((b / 2147483648 % 2 : Nat) : Int) ∧
    bits .and .u64 ((b : Int) / 8388608) 255 = ((b / 8388608 % 256 : Nat) : Int) ∧
    bits .and .u64 (b : Int) 8388607 = ((b % 8388608 : Nat) : Int) ∧
    bits .or .u64 ((b % 8388608 : Nat) : Int) 8388608 = ((b % 8388608 + 8388608 : Nat) : Int) := by
  refine ⟨?_, ?_, ?_, ?_⟩
  · have := u64_and1 (x := b / 2147483648) (by omega)
    exact this
  · have : bits .and .u64 ((b : Int) / 8388608) 255 = (b : Int) / 8388608 % 256 := by go_bits2
    rw [this]; omega
  · have : bits .and .u64 (b : Int) 8388607 = (b : Int) % 8388608 := by go_bits2
    rw [this]; omega
  · rw [show (8388608 : Int) = ((8388608 : Nat) : Int) from rfl, u64_or_nat _ _ (by omega) (by decide), Nat.or_comm,
      show (8388608 : Nat) = 2 ^ 23 * 1 from rfl, ← Nat.two_pow_add_eq_or_of_lt (i := 23) (by omega) 1]
    omega

end Go.Proofs.Ytdempklpmggdoaa
/- Plain facts: how the reference rounds, step by step, and that it comes to the nearest word. -/
namespace Go.Proofs.Ytdempklpmggdoaa
open Go.RowKit

theorem log2_stick {n m : Nat} (h : n ≠ 0) (hm : m ≤ 1) : (2 * n + m).log2 = n.log2 + 1 := by
  have h1 := Nat.log2_self_le h
  have h2 : n < 2 ^ (n.log2 + 1) := Nat.lt_log2_self
  refine (Nat.log2_eq_iff (by omega)).2 ⟨?_, ?_⟩
  · rw [Nat.pow_succ]; omega
  · rw [Nat.pow_succ]; omega
theorem last_stick (f : Ieee.Format) {n m : Nat} (e : Int) (h : n ≠ 0) (hm : m ≤ 1) : lastOf f (2 * n + m) (e - 1) = lastOf f n e := by
  unfold lastOf; rw [log2_stick h hm]; congr 1; omega

/-- What is kept. -/
def keptV (n m : Nat) (e to : Int) : Nat := rz (2 * n + m) (e - 1 - to)

theorem kept_down {n m : Nat} {e to : Int} (d : Nat) (hd : to = e + d) (h : 1 ≤ d) (hm : m ≤ 1) :
    keptV n m e to = n / 2 ^ d + if bitV n (d - 1) = 1 ∧ (m = 1 ∨ n % 2 ^ (d - 1) ≠ 0 ∨ bitV (n / 2 ^ d) 0 = 1) then 1 else 0 := by
  obtain ⟨j, rfl⟩ : ∃ j, d = j + 1 := ⟨d - 1, by omega⟩
  unfold keptV
  rw [hd, show e - 1 - (e + ((j + 1 : Nat) : Int)) = -((j + 2 : Nat) : Int) by omega, rz_neg]
  have hp := Nat.two_pow_pos j
  have p1 : 2 ^ (j + 1) = 2 * 2 ^ j := by rw [Nat.pow_succ]; omega
  have p2 : 2 ^ (j + 2) = 4 * 2 ^ j := by rw [Nat.pow_succ, p1]; omega
  rw [show j + 1 - 1 = j by omega]
  -- n = 2^(j+1) q + 2^j b + r
  obtain ⟨r, hr⟩ : ∃ r, r = n % 2 ^ j := ⟨_, rfl⟩
  obtain ⟨b, hb⟩ : ∃ b, b = n / 2 ^ j % 2 := ⟨_, rfl⟩
  obtain ⟨q, hq⟩ : ∃ q, q = n / 2 ^ (j + 1) := ⟨_, rfl⟩
  have e1 := Nat.div_add_mod n (2 ^ j)
  have e2 : n / 2 ^ j / 2 = q := by rw [hq, Nat.pow_succ, Nat.div_div_eq_div_mul]
  have e3 : n / 2 ^ j = 2 * q + b := by omega
  rw [e3, ← hr] at e1
  have hrl : r < 2 ^ j := by rw [hr]; exact Nat.mod_lt _ hp
  have hn : n = 2 * 2 ^ j * q + (2 ^ j * b + r) := by rw [← e1, Nat.mul_add, Nat.mul_comm 2 (2 ^ j), Nat.mul_assoc]; omega
  have hb1 : b ≤ 1 := by omega
  have hbb : 2 ^ j * b + r < 2 * 2 ^ j := by
    rcases (by omega : b = 0 ∨ b = 1) with g | g <;> rw [g] <;> omega
  have s1 : 2 * n + m = 4 * 2 ^ j * q + (2 * (2 ^ j * b + r) + m) := by
    have e4 : 2 * (2 * 2 ^ j * q) = 4 * 2 ^ j * q := by rw [← Nat.mul_assoc, ← Nat.mul_assoc]
    omega
  have d1 : (2 * n + m) / 2 ^ (j + 2) = q := by rw [p2, s1, Nat.mul_add_div (by omega), Nat.div_eq_of_lt (by omega), Nat.add_zero]
  have m1 : (2 * n + m) % 2 ^ (j + 2) = 2 * (2 ^ j * b + r) + m := by rw [p2, s1, Nat.mul_add_mod, Nat.mod_eq_of_lt (by omega)]
  have c1 : bitV n j = b := by unfold bitV; exact hb.symm
  have c2 : bitV q 0 = q % 2 := by unfold bitV; rw [Nat.pow_zero, Nat.div_one]
  rw [← hq, c1, ← hr, c2]
  unfold rne
  have g : goesUp (2 * n + m) (j + 2) ↔ (b = 1 ∧ (m = 1 ∨ r ≠ 0 ∨ q % 2 = 1)) := by
    unfold goesUp
    rw [d1, m1, p2]
    rcases (by omega : b = 0 ∨ b = 1) with g | g
    · rw [g, Nat.mul_zero, Nat.zero_add]; omega
    · rw [g, Nat.mul_one]; omega
  by_cases h1 : b = 1 ∧ (m = 1 ∨ r ≠ 0 ∨ q % 2 = 1)
  · rw [if_pos h1, if_pos (g.2 h1), d1]
  · rw [if_neg h1, if_neg (fun c => h1 (g.1 c)), d1]

theorem kept_up {n : Nat} {e to : Int} (d : Nat) (hd : e = to + d) : keptV n 0 e to = n * 2 ^ d := by
  unfold keptV
  rw [Nat.add_zero, hd]
  have := rz_scale n 1 (to + (d : Int) - 1 - to)
  rw [Nat.pow_one, Nat.mul_comm n 2] at this
  rw [this, show to + (d : Int) - 1 - to + ((1 : Nat) : Int) = (d : Int) by omega, rz_nat]

/-- The place of the last digit, as the reference reckons it. -/
def toV (n : Nat) (e : Int) (fr least : Int) : Int := max ((blen n : Int) + e - (fr + 1)) least
theorem toV_last (f : Ieee.Format) {n : Nat} (e : Int) (h : n ≠ 0) : toV n e f.fractionBits f.leastPlace = lastOf f n e := by
  unfold toV lastOf blen; rw [if_neg h]; congr 1; omega

theorem kept_zero (e to : Int) : keptV 0 0 e to = 0 := by
  unfold keptV rz
  rw [Nat.mul_zero, Nat.add_zero, Nat.zero_mul]
  have := rne_scale 0 0 (-(e - 1 - to)).toNat
  rw [Nat.zero_mul, Nat.zero_add, rne_zero] at this
  exact this

/-- What is kept, in bounds; the rung made of it. -/
theorem kept_facts (f : Ieee.Format) (n m : Nat) (e : Int) (hm : m ≤ 1) (h : m = 1 → n ≠ 0) :
    keptV n m e (toV n e f.fractionBits f.leastPlace) ≤ 2 * f.binade ∧ f.leastPlace ≤ toV n e f.fractionBits f.leastPlace ∧
    (keptV n m e (toV n e f.fractionBits f.leastPlace) < f.binade → toV n e f.fractionBits f.leastPlace = f.leastPlace ∨ n = 0) ∧
    rungOf f (2 * n + m) (e - 1) = if n = 0 then 0 else min ((toV n e f.fractionBits f.leastPlace - f.leastPlace).toNat * f.binade + keptV n m e (toV n e f.fractionBits f.leastPlace)) f.infRung := by
  by_cases h0 : n = 0
  · subst h0
    obtain rfl : m = 0 := by
      rcases (by omega : m = 0 ∨ m = 1) with g | g
      · exact g
      · exact absurd rfl (h g)
    refine ⟨by rw [kept_zero]; omega, by unfold toV; omega, fun _ => Or.inr rfl, ?_⟩
    unfold rungOf; rw [if_pos rfl, if_pos rfl]
  · rw [toV_last f e h0]
    have hl := last_stick f e h0 hm
    have hne : 2 * n + m ≠ 0 := by omega
    have h1 := kept_le f (2 * n + m) (e - 1)
    rw [hl] at h1
    refine ⟨h1, last_ge f n e, fun hlt => Or.inl ?_, ?_⟩
    · rcases Int.lt_or_eq_of_le (last_ge f n e) with g | g
      · have h2 : lastOf f (2 * n + m) (e - 1) = e - 1 + (2 * n + m).log2 - f.fractionBits := by
          have h3 := last_ge f n e
          rw [← hl] at g
          unfold lastOf at g ⊢; omega
        have h4 := le_kept f hne (e - 1) h2
        rw [hl] at h4
        unfold keptV at hlt
        omega
      · exact g.symm
    · unfold rungOf
      rw [if_neg hne, if_neg h0, hl]
      rfl

/-- The word that the reference puts together. -/
theorem or_word {neg : Bool} {r : Nat} (hr : r < 2147483648) : bits .or .u64 (signV false neg) (r : Int) = ((Ieee.single.word neg r : Nat) : Int) := by
  unfold Ieee.Format.word signV
  rw [single_sign]
  cases neg
  · show bits .or .u64 ((0 : Nat) : Int) (r : Int) = _
    rw [u64_or_nat _ _ (by decide) (by omega), Nat.zero_or]; rfl
  · show bits .or .u64 ((2147483648 : Nat) : Int) (r : Int) = _
    rw [u64_or_nat _ _ (by decide) (by omega), show (2147483648 : Nat) = 2 ^ 31 * 1 from rfl, ← Nat.two_pow_add_eq_or_of_lt (i := 31) hr 1]
    rfl
theorem or_word2 {neg : Bool} {x fr : Nat} (hx : x < 256) (hf : fr < 8388608) :
    bits .or .u64 ((Ieee.single.word neg (x * 8388608) : Nat) : Int) (fr : Int) = ((Ieee.single.word neg (x * 8388608 + fr) : Nat) : Int) := by
  have e : Ieee.single.word neg (x * 8388608) = 2 ^ 23 * ((if neg = true then 256 else 0) + x) := by
    unfold Ieee.Format.word; rw [single_sign]; cases neg <;> simp <;> omega
  have e2 : Ieee.single.word neg (x * 8388608 + fr) = 2 ^ 23 * ((if neg = true then 256 else 0) + x) + fr := by
    unfold Ieee.Format.word; rw [single_sign]; cases neg <;> simp <;> omega
  have hb : (if neg = true then 256 else 0) ≤ 256 := by split <;> omega
  rw [e2, e, u64_or_nat _ _ (by omega) (by omega), ← Nat.two_pow_add_eq_or_of_lt (i := 23) hf]
theorem word_lt {neg : Bool} {r : Nat} (hr : r < 2147483648) : Ieee.single.word neg r < 4294967296 := by
  unfold Ieee.Format.word; rw [single_sign]; split <;> omega

/-- Carried where it must be: what is kept, and its place. -/
theorem carried {n K : Nat} {T : Int} {R : Nat} (h1 : K ≤ 2 * 8388608) (h2 : -149 ≤ T) (h3 : K < 8388608 → T = -149 ∨ n = 0) (h0 : n = 0 → K = 0)
    (h4 : R = if n = 0 then 0 else min ((T - -149).toNat * 8388608 + K) 2139095040) :
    ∃ (K' : Nat) (T' : Int), K' < 16777216 ∧ -149 ≤ T' ∧ T' ≤ T + 1 ∧ ((K = 16777216 ∧ K' = 8388608 ∧ T' = T + 1) ∨ (K < 16777216 ∧ K' = K ∧ T' = T)) ∧
      (K' < 8388608 → R = K') ∧ (8388608 ≤ K' → R = min ((T' + 149).toNat * 8388608 + K') 2139095040) := by
  by_cases hK : K = 16777216
  · refine ⟨8388608, T + 1, by decide, by omega, by omega, Or.inl ⟨hK, rfl, rfl⟩, fun h => absurd h (by decide), fun _ => ?_⟩
    have : n ≠ 0 := fun e => by have := h0 e; omega
    rw [h4, if_neg this]
    have e1 : (T + 1 + 149).toNat = (T - -149).toNat + 1 := by omega
    have e2 : ∀ y : Nat, y * 8388608 + 16777216 = (y + 1) * 8388608 + 8388608 := fun y => by omega
    rw [e1, hK, e2]
  · refine ⟨K, T, by omega, h2, by omega, Or.inr ⟨by omega, rfl, rfl⟩, fun h => ?_, fun h => ?_⟩
    · rw [h4]
      by_cases hn : n = 0
      · rw [if_pos hn, h0 hn]
      · rw [if_neg hn]
        rcases h3 h with g | g
        · rw [g]; simp; omega
        · exact absurd g hn
    · have : n ≠ 0 := fun e => by have := h0 e; omega
      rw [h4, if_neg this]
      rw [show (T - -149).toNat = (T + 149).toNat by omega]
end Go.Proofs.Ytdempklpmggdoaa
