/- What the reference's small functions of a form return: F32, top, bias, sign, Made. -/
import Derived.Test.YtieojgblamkgoaaGreatDoorGdea84ce1
import Derived.RegionTactic
import Derived.ChangeAlike
import Derived.Deep.QuietTactic
import Derived.BigQuiet
import Derived.Deep.RegionWith
import Derived.Deep.RegionHeld3
import Derived.Test.YtieojgblamkgoaaGreatDoorG55d3bd5b
namespace Go.Proofs.YtieojgblamkgoaaGreatDoor
open Go.RowKit

set_option maxHeartbeats 800000 in
theorem f32_any (w : World) : Calls Tryz.prog 100 #[] w fun e w' => e = .returned (.agg #[.int .i64 23, .int .i64 8]) ∧ Q w w' := by
  go_enter Tryz.func100, Tryz.ntmps100
  go_wp2
  exact bodyPost_ret (v := .agg #[.int .i64 23, .int .i64 8]) (by simp [results, Tryz.results100, go_sem]) rfl ⟨rfl, (Q.refl w).cells _ _⟩

set_option maxHeartbeats 800000 in
theorem top_any (F E T : Int) (h : (F = 23 ∧ E = 8 ∧ T = 255) ∨ (F = 52 ∧ E = 11 ∧ T = 2047)) (w : World) :
    Calls Tryz.prog 116 #[.agg #[.int .i64 F, .int .i64 E]] w fun e w' => e = .returned (.int .u64 T) ∧ w' = w.alloc (.cells #[.int .i64 F, .int .i64 E] 145) := by
  rcases h with ⟨rfl, rfl, rfl⟩ | ⟨rfl, rfl, rfl⟩
  all_goals
    go_enter Tryz.func116, Tryz.ntmps116
    go_wp2
    go_ret
    exact ⟨rfl, rfl⟩

set_option maxHeartbeats 800000 in
theorem bias_any (F E B : Int) (h : (F = 23 ∧ E = 8 ∧ B = 150) ∨ (F = 52 ∧ E = 11 ∧ B = 1075)) (w : World) :
    Calls Tryz.prog 117 #[.agg #[.int .i64 F, .int .i64 E]] w fun e w' => e = .returned (.int .i64 B) ∧ w' = (w.alloc (.cells #[.int .i64 F, .int .i64 E] 145)).drew := by
  rcases h with ⟨rfl, rfl, rfl⟩ | ⟨rfl, rfl, rfl⟩
  all_goals
    go_enter Tryz.func117, Tryz.ntmps117
    go_wp2
    go_region
    all_goals
      go_wp2
      go_ret
      exact ⟨rfl, rfl⟩

/-- The sign's bit. -/
def signV (d neg : Bool) : Int := if neg = true then (if d = true then 9223372036854775808 else 2147483648) else 0
set_option maxHeartbeats 800000 in
theorem sign_any (F E : Int) (d neg : Bool) (h : (F = 23 ∧ E = 8 ∧ d = false) ∨ (F = 52 ∧ E = 11 ∧ d = true)) (w : World) :
    Calls Tryz.prog 115 #[.agg #[.int .i64 F, .int .i64 E], .bool neg] w fun e w' => e = .returned (.int .u64 (signV d neg)) ∧ w' = w.alloc (.cells #[.int .i64 F, .int .i64 E] 145) := by
  rcases h with ⟨rfl, rfl, rfl⟩ | ⟨rfl, rfl, rfl⟩ <;> cases neg
  all_goals
    go_enter Tryz.func115, Tryz.ntmps115
    go_wp2
    go_ret
    exact ⟨rfl, rfl⟩

set_option maxHeartbeats 1600000 in
theorem fmade_any (F E M : Int) (h : (F = 23 ∧ E = 8 ∧ M = 2143289344) ∨ (F = 52 ∧ E = 11 ∧ M = 9221120237041090560)) (w : World) :
    Calls Tryz.prog 114 #[.agg #[.int .i64 F, .int .i64 E]] w fun e w' => e = .returned (.int .u64 M) ∧ Q w w' := by
  rcases h with ⟨rfl, rfl, rfl⟩ | ⟨rfl, rfl, rfl⟩
  · have h1 : IntKind.i64.wrap 22 = 22 := by decide
    have h2 : IntKind.u64.wrap 2139095040 = 2139095040 := by decide
    have h3 : IntKind.u64.wrap 4194304 = 4194304 := by decide
    have h4 : bits .or .u64 2139095040 4194304 = 2143289344 := by decide
    go_enter Tryz.func114, Tryz.ntmps114
    go_wp2_with fail
    go_region_held3 (fun w' => w'.cell? ⟨w.heap.size, 0, none⟩ = some (.int .i64 23) ∧ w'.cell? ⟨w.heap.size, 1, none⟩ = some (.int .i64 8)) (go_keep) (first | (go_at_call 116; refine (top_any 23 8 255 (by decide) _).mono ?_; rintro e w1 ⟨rfl, rfl⟩))
    all_goals
      go_wp2
      go_ret
      exact ⟨rfl, (((Q.refl w).cells _ _).cells _ _).drew⟩
  · have h1 : IntKind.i64.wrap 51 = 51 := by decide
    have h2 : IntKind.u64.wrap 9218868437227405312 = 9218868437227405312 := by decide
    have h3 : IntKind.u64.wrap 2251799813685248 = 2251799813685248 := by decide
    have h4 : bits .or .u64 9218868437227405312 2251799813685248 = 9221120237041090560 := by decide
    go_enter Tryz.func114, Tryz.ntmps114
    go_wp2_with fail
    go_region_held3 (fun w' => w'.cell? ⟨w.heap.size, 0, none⟩ = some (.int .i64 52) ∧ w'.cell? ⟨w.heap.size, 1, none⟩ = some (.int .i64 11)) (go_keep) (first | (go_at_call 116; refine (top_any 52 11 2047 (by decide) _).mono ?_; rintro e w1 ⟨rfl, rfl⟩))
    all_goals
      go_wp2
      go_ret
      exact ⟨rfl, (((Q.refl w).cells _ _).cells _ _).drew⟩
end Go.Proofs.YtieojgblamkgoaaGreatDoor
/- Numbers of the reference: how they lie in memory; what Of returns of a word. -/
namespace Go.Proofs.YtieojgblamkgoaaGreatDoor
open Go.RowKit

/-- A number of the reference. -/
structure RNum where
  it : Option (Bool ⊕ (Bool × Nat × Int × Bool))
abbrev RNum.nan : RNum := ⟨none⟩
abbrev RNum.inf (s : Bool) : RNum := ⟨some (.inl s)⟩
abbrev RNum.fin (s : Bool) (n : Nat) (e : Int) (m : Bool) : RNum := ⟨some (.inr (s, n, e, m))⟩
theorem RNum.rec3 {motive : RNum → Prop} (nan : motive .nan) (inf : ∀ s, motive (.inf s)) (fin : ∀ s n e m, motive (.fin s n e m)) (x : RNum) : motive x := by
  obtain ⟨_ | s | ⟨s, n, e, m⟩⟩ := x
  · exact nan
  · exact inf s
  · exact fin s n e m

/-- The struct v is the number x. -/
def NumAt (w : World) (v : Value) : RNum → Prop
  | ⟨none⟩ => ∃ b e m, v = .agg #[.int .i64 0, .bool b, .slice none 0 0, .int .i64 e, .bool m]
  | ⟨some (.inl s)⟩ => ∃ e m, v = .agg #[.int .i64 1, .bool s, .slice none 0 0, .int .i64 e, .bool m]
  | ⟨some (.inr (s, n, e, m))⟩ => ∃ nv, v = .agg #[.int .i64 2, .bool s, nv, .int .i64 e, .bool m] ∧ NatAt w nv n
theorem Q.num {a b : World} (h : Q a b) {v : Value} {x : RNum} (hx : NumAt a v x) : NumAt b v x := by
  cases x using RNum.rec3 with
  | nan => exact hx
  | inf s => exact hx
  | fin s n e m =>
    obtain ⟨nv, e, hn⟩ := hx
    exact ⟨nv, e, h.nat hn⟩

/-- What a word stands for. -/
def numOf (f : Ieee.Format) (b : Nat) : RNum :=
  match f.read b with
  | .nan .. => .nan
  | .infinity s => .inf s
  | .number s m p => .fin s m p false

theorem single_sign : Ieee.single.signWeight = 2147483648 := by decide
theorem single_binade : Ieee.single.binade = 8388608 := by decide
theorem single_inf : Ieee.single.infRung = 2139095040 := by decide
theorem single_least : Ieee.single.leastPlace = -149 := by decide
theorem single_frac : Ieee.single.fractionBits = 23 := rfl
theorem double_sign : Ieee.double.signWeight = 9223372036854775808 := by decide
theorem double_binade : Ieee.double.binade = 4503599627370496 := by decide
theorem double_inf : Ieee.double.infRung = 9218868437227405312 := by decide
theorem double_least : Ieee.double.leastPlace = -1074 := by decide
theorem double_frac : Ieee.double.fractionBits = 52 := rfl

theorem numOf_nan {b : Nat} (h1 : b / 8388608 % 256 = 255) (h2 : b % 8388608 ≠ 0) : numOf Ieee.single b = .nan := by
  unfold numOf Ieee.Format.read
  simp only [single_sign, single_binade, single_inf, single_least]
  rw [if_neg (by omega), if_neg (by omega), if_neg (by omega)]
theorem numOf_inf {b : Nat} (h1 : b / 8388608 % 256 = 255) (h2 : b % 8388608 = 0) : numOf Ieee.single b = .inf (b / 2147483648 % 2 == 1) := by
  unfold numOf Ieee.Format.read
  simp only [single_sign, single_binade, single_inf, single_least]
  rw [if_neg (by omega), if_neg (by omega), if_pos (by omega)]
theorem numOf_small {b : Nat} (h1 : b / 8388608 % 256 = 0) : numOf Ieee.single b = .fin (b / 2147483648 % 2 == 1) (b % 8388608) (-149) false := by
  unfold numOf Ieee.Format.read
  simp only [single_sign, single_binade, single_inf, single_least]
  rw [if_pos (by omega)]
  have : b % 2147483648 = b % 8388608 := by omega
  rw [this]
theorem numOf_norm {b : Nat} (h1 : b / 8388608 % 256 ≠ 0) (h2 : b / 8388608 % 256 ≠ 255) :
    numOf Ieee.single b = .fin (b / 2147483648 % 2 == 1) (b % 8388608 + 8388608) (((b / 8388608 % 256 : Nat) : Int) - 150) false := by
  unfold numOf Ieee.Format.read
  simp only [single_sign, single_binade, single_inf, single_least]
  rw [if_neg (by omega), if_pos (by omega)]
  have e1 : 8388608 + b % 2147483648 % 8388608 = b % 8388608 + 8388608 := by omega
  have e2 : (-149 : Int) + ((b % 2147483648 / 8388608 - 1 : Nat) : Int) = ((b / 8388608 % 256 : Nat) : Int) - 150 := by omega
  rw [e1, e2]

theorem u64_and1 {x : Nat} (h : x < 18446744073709551616) : bits .and .u64 (x : Int) 1 = ((x % 2 : Nat) : Int) := by
  rw [show (1 : Int) = ((1 : Nat) : Int) from rfl, u64_and_nat _ _ h (by decide), Nat.and_one_is_mod]

/-- The bits of a binary32 word among 64. -/
theorem of_bits32 {b : Nat} (hb : b < 4294967296) :
    bits .and .u64 ((b : Int) / 2147483648) 1 = ((b / 2147483648 % 2 : Nat) : Int) ∧
    bits .and .u64 ((b : Int) / 8388608) 255 = ((b / 8388608 % 256 : Nat) : Int) ∧
    bits .and .u64 (b : Int) 8388607 = ((b % 8388608 : Nat) : Int) ∧
    bits .or .u64 ((b % 8388608 : Nat) : Int) 8388608 = ((b % 8388608 + 8388608 : Nat) : Int) := by
  refine ⟨?_, ?_, ?_, ?_⟩
  · have := u64_and1 (x := b / 2147483648) (by omega)
    exact this
  · have : bits .and .u64 ((b : Int) / 8388608) 255 = (b : Int) / 8388608 % 256 := by go_bits2
    rw [this]; omega
  · have : bits .and .u64 (b : Int) 8388607 = (b : Int) % 8388608 := by go_bits2
    rw [this]; omega
  · rw [show (8388608 : Int) = ((8388608 : Nat) : Int) from rfl, u64_or_nat _ _ (by omega) (by decide), Nat.or_comm,
      show (8388608 : Nat) = 2 ^ 23 * 1 from rfl, ← Nat.two_pow_add_eq_or_of_lt (i := 23) (by omega) 1]
    omega

set_option maxHeartbeats 4000000 in
theorem of32_any (b : Nat) (w : World) (hb : b < 4294967296) :
    Calls Tryz.prog 111 #[.agg #[.int .i64 23, .int .i64 8], .int .u64 b] w fun e w' => ∃ v, e = .returned v ∧ NumAt w' v (numOf Ieee.single b) ∧ Q w w' := by
  obtain ⟨e1, e2, e3, e4⟩ := of_bits32 hb
  obtain ⟨sg, hsg⟩ : ∃ sg : Nat, sg = b / 2147483648 % 2 := ⟨_, rfl⟩
  obtain ⟨ex, hex⟩ : ∃ ex : Nat, ex = b / 8388608 % 256 := ⟨_, rfl⟩
  obtain ⟨fr, hfr⟩ : ∃ fr : Nat, fr = b % 8388608 := ⟨_, rfl⟩
  rw [← hsg] at e1
  rw [← hex] at e2
  rw [← hfr] at e3 e4
  have xb : ex ≤ 255 := by omega
  have fb : fr < 8388608 := by omega
  have esg : ((sg : Int) == 1) = (b / 2147483648 % 2 == 1) := by
    rw [← hsg]
    rcases (by omega : sg = 0 ∨ sg = 1) with e | e <;> rw [e] <;> rfl
  have HSG : Hid _ := esg
  have hcase : (ex = 255 ∧ fr ≠ 0 ∧ Hid (numOf Ieee.single b = .nan)) ∨ (ex = 255 ∧ fr = 0 ∧ Hid (numOf Ieee.single b = .inf (b / 2147483648 % 2 == 1))) ∨
      (ex = 0 ∧ Hid (numOf Ieee.single b = .fin (b / 2147483648 % 2 == 1) fr (-149) false)) ∨ (ex ≠ 0 ∧ ex ≠ 255 ∧ Hid (numOf Ieee.single b = .fin (b / 2147483648 % 2 == 1) (fr + 8388608) ((ex : Int) - 150) false)) := by
    by_cases h1 : ex = 255
    · by_cases h2 : fr = 0
      · exact Or.inr (Or.inl ⟨h1, h2, numOf_inf (by omega) (by omega)⟩)
      · exact Or.inl ⟨h1, h2, numOf_nan (by omega) (by omega)⟩
    · by_cases h3 : ex = 0
      · exact Or.inr (Or.inr (Or.inl ⟨h3, by rw [hfr]; exact numOf_small (by omega)⟩))
      · exact Or.inr (Or.inr (Or.inr ⟨h3, h1, by rw [hfr, hex]; exact numOf_norm (by omega) (by omega)⟩))
  clear hsg hex hfr esg
  have w1 : IntKind.u64.wrap 255 = 255 := by decide
  have w2 : IntKind.u64.wrap 8388608 = 8388608 := by decide
  have w3 : IntKind.u64.wrap 8388607 = 8388607 := by decide
  have w4 : IntKind.i64.wrap (-149) = -149 := by decide
  rcases hcase with ⟨rfl, h2, HR⟩ | ⟨rfl, rfl, HR⟩ | ⟨rfl, HR⟩ | ⟨h1, h2, HR⟩
  · have h2b : ((fr : Int) != 0) = true := by simp; omega
    go_enter Tryz.func111, Tryz.ntmps111
    go_wp2_with fail
    go_region_held3 (fun w' => w'.cell? ⟨w.heap.size, 0, none⟩ = some (.int .i64 23) ∧ w'.cell? ⟨w.heap.size, 1, none⟩ = some (.int .i64 8)) (first | (simp [go_sem]; done) | go_keep) (first | (go_at_call 116; refine (top_any 23 8 255 (by decide) _).mono ?_; rintro e w1 ⟨rfl, rfl⟩))
    go_wp2_with fail
    refine (top_any 23 8 255 (by decide) _).mono ?_
    rintro e v1 ⟨rfl, rfl⟩
    go_wp2_with fail
    refine bodyPost_ret (v := .agg #[.int .i64 0, .bool false, .slice none 0 0, .int .i64 0, .bool false]) (by simp [results, Tryz.results111, go_sem]) rfl ⟨_, rfl, ?_, ?_⟩
    · rw [HR.out]; exact ⟨_, _, _, rfl⟩
    · exact (((((Q.refl w).cells _ _).cells _ _).cells _ _).cells _ _).drew
  · go_enter Tryz.func111, Tryz.ntmps111
    go_wp2_with fail
    go_region_held3 (fun w' => w'.cell? ⟨w.heap.size, 0, none⟩ = some (.int .i64 23) ∧ w'.cell? ⟨w.heap.size, 1, none⟩ = some (.int .i64 8)) (first | (simp [go_sem]; done) | go_keep) (first | (go_at_call 116; refine (top_any 23 8 255 (by decide) _).mono ?_; rintro e w1 ⟨rfl, rfl⟩))
    go_wp2_with fail
    refine (top_any 23 8 255 (by decide) _).mono ?_
    rintro e v1 ⟨rfl, rfl⟩
    go_wp2_with fail
    refine bodyPost_ret (v := .agg #[.int .i64 1, .bool ((sg : Int) == 1), .slice none 0 0, .int .i64 0, .bool false]) (by simp [results, Tryz.results111, go_sem]) rfl ⟨_, rfl, ?_, ?_⟩
    · rw [HR.out, HSG.out]; exact ⟨_, _, rfl⟩
    · exact (((((Q.refl w).cells _ _).cells _ _).cells _ _).cells _ _).drew
  · go_enter Tryz.func111, Tryz.ntmps111
    go_wp2_with fail
    go_region_held3 (fun w' => w'.cell? ⟨w.heap.size, 0, none⟩ = some (.int .i64 23) ∧ w'.cell? ⟨w.heap.size, 1, none⟩ = some (.int .i64 8)) (first | (simp [go_sem]; done) | go_keep) (first | (go_at_call 116; refine (top_any 23 8 255 (by decide) _).mono ?_; rintro e w1 ⟨rfl, rfl⟩))
    go_wp2_with fail
    refine (top_any 23 8 255 (by decide) _).mono ?_
    rintro e v1 ⟨rfl, rfl⟩
    go_wp2_with fail
    go_region_held3 (fun w' => w'.cell? ⟨w.heap.size, 0, none⟩ = some (.int .i64 23) ∧ w'.cell? ⟨w.heap.size, 1, none⟩ = some (.int .i64 8)) (first | (simp [go_sem]; done) | go_keep) (first | (go_at_call 99; refine (natof_any fr _ (by omega)).mono ?_; rintro e w1 ⟨C, rfl, rfl⟩) | (go_at_call 117; refine (bias_any 23 8 150 (by decide) _).mono ?_; rintro e w1 ⟨rfl, rfl⟩))
    all_goals
      go_wp2
      refine bodyPost_ret (v := .agg #[.int .i64 2, .bool ((sg : Int) == 1), .slice (some ⟨w.heap.size + 1 + 1 + 1 + 1, 0, none⟩) (len64 fr) C, .int .i64 (-149), .bool false]) (by simp [results, Tryz.results111, go_sem]) rfl ⟨_, rfl, ?_, ?_⟩
      · rw [HR.out, HSG.out]
        exact ⟨_, rfl, natAt_two (by omega) (by simp [go_sem]) (by simp [go_sem])⟩
      · exact (((((((Q.refl w).cells _ _).cells _ _).cells _ _).cells _ _).cells _ _).cells _ _).drew.drew.drew
  · have h1b : ((ex : Int) == 255) = false := by simp; omega
    have h2b : ((ex : Int) == 0) = false := by simp; omega
    obtain ⟨M, hM⟩ : ∃ M, M = fr + 8388608 := ⟨_, rfl⟩
    rw [← hM] at e4
    have hMb : M < 18446744073709551616 := by omega
    have w5 : IntKind.i64.wrap ((ex : Int) - 150) = (ex : Int) - 150 := by rw [IntKind.wrap_i64]; omega
    have w6 : IntKind.i64.wrap (ex : Int) = (ex : Int) := by rw [IntKind.wrap_i64]; omega
    have HM : Hid _ := hM
    clear hM
    go_enter Tryz.func111, Tryz.ntmps111
    go_wp2_with fail
    go_region_held3 (fun w' => w'.cell? ⟨w.heap.size, 0, none⟩ = some (.int .i64 23) ∧ w'.cell? ⟨w.heap.size, 1, none⟩ = some (.int .i64 8)) (first | (simp [go_sem]; done) | go_keep) (first | (go_at_call 116; refine (top_any 23 8 255 (by decide) _).mono ?_; rintro e w1 ⟨rfl, rfl⟩))
    go_wp2_with fail
    refine (top_any 23 8 255 (by decide) _).mono ?_
    rintro e v1 ⟨rfl, rfl⟩
    go_wp2_with fail
    go_region_held3 (fun w' => w'.cell? ⟨w.heap.size, 0, none⟩ = some (.int .i64 23) ∧ w'.cell? ⟨w.heap.size, 1, none⟩ = some (.int .i64 8)) (first | (simp [go_sem]; done) | go_keep) (first | (go_at_call 99; refine (natof_any M _ hMb).mono ?_; rintro e w1 ⟨C, rfl, rfl⟩) | (go_at_call 117; refine (bias_any 23 8 150 (by decide) _).mono ?_; rintro e w1 ⟨rfl, rfl⟩))
    all_goals
      go_wp2
      refine bodyPost_ret (v := .agg #[.int .i64 2, .bool ((sg : Int) == 1), .slice (some ⟨w.heap.size + 1 + 1 + 1 + 1, 0, none⟩) (len64 M) C, .int .i64 ((ex : Int) - 150), .bool false]) (by simp [results, Tryz.results111, go_sem]) rfl ⟨_, rfl, ?_, ?_⟩
      · rw [HR.out, HSG.out, ← HM.out]
        exact ⟨_, rfl, natAt_two hMb (by simp [go_sem]) (by simp [go_sem])⟩
      · exact (((((((Q.refl w).cells _ _).cells _ _).cells _ _).cells _ _).cells _ _).cells _ _).drew.drew.drew
end Go.Proofs.YtieojgblamkgoaaGreatDoor
/- Plain facts: how the reference rounds, step by step, and that it comes to the nearest word. -/
namespace Go.Proofs.YtieojgblamkgoaaGreatDoor
open Go.RowKit

theorem log2_stick {n m : Nat} (h : n ≠ 0) (hm : m ≤ 1) : (2 * n + m).log2 = n.log2 + 1 := by
  have h1 := Nat.log2_self_le h
  have h2 : n < 2 ^ (n.log2 + 1) := Nat.lt_log2_self
  refine (Nat.log2_eq_iff (by omega)).2 ⟨?_, ?_⟩
  · rw [Nat.pow_succ]; omega
  · rw [Nat.pow_succ]; omega
theorem last_stick (f : Ieee.Format) {n m : Nat} (e : Int) (h : n ≠ 0) (hm : m ≤ 1) : lastOf f (2 * n + m) (e - 1) = lastOf f n e := by
  unfold lastOf; rw [log2_stick h hm]; congr 1; omega

/-- What is kept. -/
def keptV (n m : Nat) (e to : Int) : Nat := rz (2 * n + m) (e - 1 - to)

theorem kept_down {n m : Nat} {e to : Int} (d : Nat) (hd : to = e + d) (h : 1 ≤ d) (hm : m ≤ 1) :
    keptV n m e to = n / 2 ^ d + if bitV n (d - 1) = 1 ∧ (m = 1 ∨ n % 2 ^ (d - 1) ≠ 0 ∨ bitV (n / 2 ^ d) 0 = 1) then 1 else 0 := by
  obtain ⟨j, rfl⟩ : ∃ j, d = j + 1 := ⟨d - 1, by omega⟩
  unfold keptV
  rw [hd, show e - 1 - (e + ((j + 1 : Nat) : Int)) = -((j + 2 : Nat) : Int) by omega, rz_neg]
  have hp := Nat.two_pow_pos j
  have p1 : 2 ^ (j + 1) = 2 * 2 ^ j := by rw [Nat.pow_succ]; omega
  have p2 : 2 ^ (j + 2) = 4 * 2 ^ j := by rw [Nat.pow_succ, p1]; omega
  rw [show j + 1 - 1 = j by omega]
  -- n = 2^(j+1) q + 2^j b + r
  obtain ⟨r, hr⟩ : ∃ r, r = n % 2 ^ j := ⟨_, rfl⟩
  obtain ⟨b, hb⟩ : ∃ b, b = n / 2 ^ j % 2 := ⟨_, rfl⟩
  obtain ⟨q, hq⟩ : ∃ q, q = n / 2 ^ (j + 1) := ⟨_, rfl⟩
  have e1 := Nat.div_add_mod n (2 ^ j)
  have e2 : n / 2 ^ j / 2 = q := by rw [hq, Nat.pow_succ, Nat.div_div_eq_div_mul]
  have e3 : n / 2 ^ j = 2 * q + b := by omega
  rw [e3, ← hr] at e1
  have hrl : r < 2 ^ j := by rw [hr]; exact Nat.mod_lt _ hp
  have hn : n = 2 * 2 ^ j * q + (2 ^ j * b + r) := by rw [← e1, Nat.mul_add, Nat.mul_comm 2 (2 ^ j), Nat.mul_assoc]; omega
  have hb1 : b ≤ 1 := by omega
  have hbb : 2 ^ j * b + r < 2 * 2 ^ j := by
    rcases (by omega : b = 0 ∨ b = 1) with g | g <;> rw [g] <;> omega
  have s1 : 2 * n + m = 4 * 2 ^ j * q + (2 * (2 ^ j * b + r) + m) := by
    have e4 : 2 * (2 * 2 ^ j * q) = 4 * 2 ^ j * q := by rw [← Nat.mul_assoc, ← Nat.mul_assoc]
    omega
  have d1 : (2 * n + m) / 2 ^ (j + 2) = q := by rw [p2, s1, Nat.mul_add_div (by omega), Nat.div_eq_of_lt (by omega), Nat.add_zero]
  have m1 : (2 * n + m) % 2 ^ (j + 2) = 2 * (2 ^ j * b + r) + m := by rw [p2, s1, Nat.mul_add_mod, Nat.mod_eq_of_lt (by omega)]
  have c1 : bitV n j = b := by unfold bitV; exact hb.symm
  have c2 : bitV q 0 = q % 2 := by unfold bitV; rw [Nat.pow_zero, Nat.div_one]
  rw [← hq, c1, ← hr, c2]
  unfold rne
  have g : goesUp (2 * n + m) (j + 2) ↔ (b = 1 ∧ (m = 1 ∨ r ≠ 0 ∨ q % 2 = 1)) := by
    unfold goesUp
    rw [d1, m1, p2]
    rcases (by omega : b = 0 ∨ b = 1) with g | g
    · rw [g, Nat.mul_zero, Nat.zero_add]; omega
    · rw [g, Nat.mul_one]; omega
  by_cases h1 : b = 1 ∧ (m = 1 ∨ r ≠ 0 ∨ q % 2 = 1)
  · rw [if_pos h1, if_pos (g.2 h1), d1]
  · rw [if_neg h1, if_neg (fun c => h1 (g.1 c)), d1]

theorem kept_up {n : Nat} {e to : Int} (d : Nat) (hd : e = to + d) : keptV n 0 e to = n * 2 ^ d := by
  unfold keptV
  rw [Nat.add_zero, hd]
  have := rz_scale n 1 (to + (d : Int) - 1 - to)
  rw [Nat.pow_one, Nat.mul_comm n 2] at this
  rw [this, show to + (d : Int) - 1 - to + ((1 : Nat) : Int) = (d : Int) by omega, rz_nat]

/-- The place of the last digit, as the reference reckons it. -/
def toV (n : Nat) (e : Int) (fr least : Int) : Int := max ((blen n : Int) + e - (fr + 1)) least
theorem toV_last (f : Ieee.Format) {n : Nat} (e : Int) (h : n ≠ 0) : toV n e f.fractionBits f.leastPlace = lastOf f n e := by
  unfold toV lastOf blen; rw [if_neg h]; congr 1; omega

theorem kept_zero (e to : Int) : keptV 0 0 e to = 0 := by
  unfold keptV rz
  rw [Nat.mul_zero, Nat.add_zero, Nat.zero_mul]
  have := rne_scale 0 0 (-(e - 1 - to)).toNat
  rw [Nat.zero_mul, Nat.zero_add, rne_zero] at this
  exact this

/-- What is kept, in bounds; the rung made of it. -/
theorem kept_facts (f : Ieee.Format) (n m : Nat) (e : Int) (hm : m ≤ 1) (h : m = 1 → n ≠ 0) :
    keptV n m e (toV n e f.fractionBits f.leastPlace) ≤ 2 * f.binade ∧ f.leastPlace ≤ toV n e f.fractionBits f.leastPlace ∧
    (keptV n m e (toV n e f.fractionBits f.leastPlace) < f.binade → toV n e f.fractionBits f.leastPlace = f.leastPlace ∨ n = 0) ∧
    rungOf f (2 * n + m) (e - 1) = if n = 0 then 0 else min ((toV n e f.fractionBits f.leastPlace - f.leastPlace).toNat * f.binade + keptV n m e (toV n e f.fractionBits f.leastPlace)) f.infRung := by
  by_cases h0 : n = 0
  · subst h0
    obtain rfl : m = 0 := by
      rcases (by omega : m = 0 ∨ m = 1) with g | g
      · exact g
      · exact absurd rfl (h g)
    refine ⟨by rw [kept_zero]; omega, by unfold toV; omega, fun _ => Or.inr rfl, ?_⟩
    unfold rungOf; rw [if_pos rfl, if_pos rfl]
  · rw [toV_last f e h0]
    have hl := last_stick f e h0 hm
    have hne : 2 * n + m ≠ 0 := by omega
    have h1 := kept_le f (2 * n + m) (e - 1)
    rw [hl] at h1
    refine ⟨h1, last_ge f n e, fun hlt => Or.inl ?_, ?_⟩
    · rcases Int.lt_or_eq_of_le (last_ge f n e) with g | g
      · have h2 : lastOf f (2 * n + m) (e - 1) = e - 1 + (2 * n + m).log2 - f.fractionBits := by
          have h3 := last_ge f n e
          rw [← hl] at g
          unfold lastOf at g ⊢; omega
        have h4 := le_kept f hne (e - 1) h2
        rw [hl] at h4
        unfold keptV at hlt
        omega
      · exact g.symm
    · unfold rungOf
      rw [if_neg hne, if_neg h0, hl]
      rfl

/-- The word that the reference puts together. -/
theorem or_word {neg : Bool} {r : Nat} (hr : r < 2147483648) : bits .or .u64 (signV false neg) (r : Int) = ((Ieee.single.word neg r : Nat) : Int) := by
  unfold Ieee.Format.word signV
  rw [single_sign]
  cases neg
  · show bits .or .u64 ((0 : Nat) : Int) (r : Int) = _
    rw [u64_or_nat _ _ (by decide) (by omega), Nat.zero_or]; rfl
  · show bits .or .u64 ((2147483648 : Nat) : Int) (r : Int) = _
    rw [u64_or_nat _ _ (by decide) (by omega), show (2147483648 : Nat) = 2 ^ 31 * 1 from rfl, ← Nat.two_pow_add_eq_or_of_lt (i := 31) hr 1]
    rfl
theorem or_word2 {neg : Bool} {x fr : Nat} (hx : x < 256) (hf : fr < 8388608) :
    bits .or .u64 ((Ieee.single.word neg (x * 8388608) : Nat) : Int) (fr : Int) = ((Ieee.single.word neg (x * 8388608 + fr) : Nat) : Int) := by
  have e : Ieee.single.word neg (x * 8388608) = 2 ^ 23 * ((if neg = true then 256 else 0) + x) := by
    unfold Ieee.Format.word; rw [single_sign]; cases neg <;> simp <;> omega
  have e2 : Ieee.single.word neg (x * 8388608 + fr) = 2 ^ 23 * ((if neg = true then 256 else 0) + x) + fr := by
    unfold Ieee.Format.word; rw [single_sign]; cases neg <;> simp <;> omega
  have hb : (if neg = true then 256 else 0) ≤ 256 := by split <;> omega
  rw [e2, e, u64_or_nat _ _ (by omega) (by omega), ← Nat.two_pow_add_eq_or_of_lt (i := 23) hf]
theorem word_lt {neg : Bool} {r : Nat} (hr : r < 2147483648) : Ieee.single.word neg r < 4294967296 := by
  unfold Ieee.Format.word; rw [single_sign]; split <;> omega

/-- Carried where it must be: what is kept, and its place. -/
theorem carried {n K : Nat} {T : Int} {R : Nat} (h1 : K ≤ 2 * 8388608) (h2 : -149 ≤ T) (h3 : K < 8388608 → T = -149 ∨ n = 0) (h0 : n = 0 → K = 0)
    (h4 : R = if n = 0 then 0 else min ((T - -149).toNat * 8388608 + K) 2139095040) :
    ∃ (K' : Nat) (T' : Int), K' < 16777216 ∧ -149 ≤ T' ∧ T' ≤ T + 1 ∧ ((K = 16777216 ∧ K' = 8388608 ∧ T' = T + 1) ∨ (K < 16777216 ∧ K' = K ∧ T' = T)) ∧
      (K' < 8388608 → R = K') ∧ (8388608 ≤ K' → R = min ((T' + 149).toNat * 8388608 + K') 2139095040) := by
  by_cases hK : K = 16777216
  · refine ⟨8388608, T + 1, by decide, by omega, by omega, Or.inl ⟨hK, rfl, rfl⟩, fun h => absurd h (by decide), fun _ => ?_⟩
    have : n ≠ 0 := fun e => by have := h0 e; omega
    rw [h4, if_neg this]
    have e1 : (T + 1 + 149).toNat = (T - -149).toNat + 1 := by omega
    have e2 : ∀ y : Nat, y * 8388608 + 16777216 = (y + 1) * 8388608 + 8388608 := fun y => by omega
    rw [e1, hK, e2]
  · refine ⟨K, T, by omega, h2, by omega, Or.inr ⟨by omega, rfl, rfl⟩, fun h => ?_, fun h => ?_⟩
    · rw [h4]
      by_cases hn : n = 0
      · rw [if_pos hn, h0 hn]
      · rw [if_neg hn]
        rcases h3 h with g | g
        · rw [g]; simp; omega
        · exact absurd g hn
    · have : n ≠ 0 := fun e => by have := h0 e; omega
      rw [h4, if_neg this]
      rw [show (T - -149).toNat = (T + 149).toNat by omega]
end Go.Proofs.YtieojgblamkgoaaGreatDoor
