/- Numbers of the reference: how they lie in memory; what Of returns of a word. -/
import Derived.Test.YtgpkcclapkdndabFormA
import Derived.Test.YtgpkcclapkdndabNear
namespace Go.Proofs.Ytgpkcclapkdndab
open Go.RowKit

/-- A number of the reference. -/
structure RNum where
  it : Option (Bool ⊕ (Bool × Nat × Int × Bool))
abbrev RNum.nan : RNum := ⟨none⟩
abbrev RNum.inf (s : Bool) : RNum := ⟨some (.inl s)⟩
abbrev RNum.fin (s : Bool) (n : Nat) (e : Int) (m : Bool) : RNum := ⟨some (.inr (s, n, e, m))⟩
theorem RNum.rec3 {motive : RNum → Prop} (nan : motive .nan) (inf : ∀ s, motive (.inf s)) (fin : ∀ s n e m, motive (.fin s n e m)) (x : RNum) : motive x := by
  obtain ⟨_ | s | ⟨s, n, e, m⟩⟩ := x
  · exact nan
  · exact inf s
  · exact fin s n e m

/-- The struct v is the number x. -/
def NumAt (w : World) (v : Value) : RNum → Prop
  | ⟨none⟩ => ∃ b e m, v = .agg #[.int .i64 0, .bool b, .slice none 0 0, .int .i64 e, .bool m]
  | ⟨some (.inl s)⟩ => ∃ e m, v = .agg #[.int .i64 1, .bool s, .slice none 0 0, .int .i64 e, .bool m]
  | ⟨some (.inr (s, n, e, m))⟩ => ∃ nv, v = .agg #[.int .i64 2, .bool s, nv, .int .i64 e, .bool m] ∧ NatAt w nv n
theorem Q.num {a b : World} (h : Q a b) {v : Value} {x : RNum} (hx : NumAt a v x) : NumAt b v x := by
  cases x using RNum.rec3 with
  | nan => exact hx
  | inf s => exact hx
  | fin s n e m =>
    obtain ⟨nv, e, hn⟩ := hx
    exact ⟨nv, e, h.nat hn⟩

/-- What a word stands for. -/
def numOf (f : Ieee.Format) (b : Nat) : RNum :=
  match f.read b with
  | .nan .. => .nan
  | .infinity s => .inf s
  | .number s m p => .fin s m p false

theorem single_sign : Ieee.single.signWeight = 2147483648 := by decide
theorem single_binade : Ieee.single.binade = 8388608 := by decide
theorem single_inf : Ieee.single.infRung = 2139095040 := by decide
theorem single_least : Ieee.single.leastPlace = -149 := by decide
theorem single_frac : Ieee.single.fractionBits = 23 := rfl
theorem double_sign : Ieee.double.signWeight = 9223372036854775808 := by decide
theorem double_binade : Ieee.double.binade = 4503599627370496 := by decide
theorem double_inf : Ieee.double.infRung = 9218868437227405312 := by decide
theorem double_least : Ieee.double.leastPlace = -1074 := by decide
theorem double_frac : Ieee.double.fractionBits = 52 := rfl

theorem numOf_nan {b : Nat} (h1 : b / 8388608 % 256 = 255) (h2 : b % 8388608 ≠ 0) : numOf Ieee.single b = .nan := by
  unfold numOf Ieee.Format.read
  simp only [single_sign, single_binade, single_inf, single_least]
  rw [if_neg (by omega), if_neg (by omega), if_neg (by omega)]
theorem numOf_inf {b : Nat} (h1 : b / 8388608 % 256 = 255) (h2 : b % 8388608 = 0) : numOf Ieee.single b = .inf (b / 2147483648 % 2 == 1) := by
  unfold numOf Ieee.Format.read
  simp only [single_sign, single_binade, single_inf, single_least]
  rw [if_neg (by omega), if_neg (by omega), if_pos (by omega)]
theorem numOf_small {b : Nat} (h1 : b / 8388608 % 256 = 0) : numOf Ieee.single b = .fin (b / 2147483648 % 2 == 1) (b % 8388608) (-149) false := by
  unfold numOf Ieee.Format.read
  simp only [single_sign, single_binade, single_inf, single_least]
  rw [if_pos (by omega)]
  have : b % 2147483648 = b % 8388608 := by omega
  rw [this]
theorem numOf_norm {b : Nat} (h1 : b / 8388608 % 256 ≠ 0) (h2 : b / 8388608 % 256 ≠ 255) :
    numOf Ieee.single b = .fin (b / 2147483648 % 2 == 1) (b % 8388608 + 8388608) (((b / 8388608 % 256 : Nat) : Int) - 150) false := by
  unfold numOf Ieee.Format.read
  simp only [single_sign, single_binade, single_inf, single_least]
  rw [if_neg (by omega), if_pos (by omega)]
  have e1 : 8388608 + b % 2147483648 % 8388608 = b % 8388608 + 8388608 := by omega
  have e2 : (-149 : Int) + ((b % 2147483648 / 8388608 - 1 : Nat) : Int) = ((b / 8388608 % 256 : Nat) : Int) - 150 := by omega
  rw [e1, e2]

theorem u64_and1 {x : Nat} (h : x < 18446744073709551616) : bits .and .u64 (x : Int) 1 = ((x % 2 : Nat) : Int) := by
  rw [show (1 : Int) = ((1 : Nat) : Int) from rfl, u64_and_nat _ _ h (by decide), Nat.and_one_is_mod]

/-- The bits of a binary32 word among 64. -/
theorem of_bits32 {b : Nat} (hb : b < 4294967296) :
    bits .and .u64 ((b : Int) / 2147483648) 1 = ((b / 2147483648 % 2 : Nat) : Int) ∧
    bits .and .u64 ((b : Int) / 8388608) 255 = ((b / 8388608 % 256 : Nat) : Int) ∧
    bits .and .u64 (b : Int) 8388607 = ((b % 8388608 : Nat) : Int) ∧
    bits .or .u64 ((b % 8388608 : Nat) : Int) 8388608 = ((b % 8388608 + 8388608 : Nat) : Int) := by
  refine ⟨?_, ?_, ?_, ?_⟩
  · have := u64_and1 (x := b / 2147483648) (by omega)
    exact this
  · have : bits .and .u64 ((b : Int) / 8388608) 255 = (b : Int) / 8388608 % 256 := by go_bits2
    rw [this]; omega
  · have : bits .and .u64 (b : Int) 8388607 = (b : Int) % 8388608 := by go_bits2
    rw [this]; omega
  · rw [show (8388608 : Int) = ((8388608 : Nat) : Int) from rfl, u64_or_nat _ _ (by omega) (by decide), Nat.or_comm,
      show (8388608 : Nat) = 2 ^ 23 * 1 from rfl, ← Nat.two_pow_add_eq_or_of_lt (i := 23) (by omega) 1]
    omega

set_option maxHeartbeats 4000000 in
theorem of32_any (b : Nat) (w : World) (hb : b < 4294967296) :
    Calls Try.prog 23 #[.agg #[.int .i64 23, .int .i64 8], .int .u64 b] w fun e w' => ∃ v, e = .returned v ∧ NumAt w' v (numOf Ieee.single b) ∧ Q w w' := by
  obtain ⟨e1, e2, e3, e4⟩ := of_bits32 hb
  obtain ⟨sg, hsg⟩ : ∃ sg : Nat, sg = b / 2147483648 % 2 := ⟨_, rfl⟩
  obtain ⟨ex, hex⟩ : ∃ ex : Nat, ex = b / 8388608 % 256 := ⟨_, rfl⟩
  obtain ⟨fr, hfr⟩ : ∃ fr : Nat, fr = b % 8388608 := ⟨_, rfl⟩
  rw [← hsg] at e1
  rw [← hex] at e2
  rw [← hfr] at e3 e4
  have xb : ex ≤ 255 := by omega
  have fb : fr < 8388608 := by omega
  have esg : ((sg : Int) == 1) = (b / 2147483648 % 2 == 1) := by
    rw [← hsg]
    rcases (by omega : sg = 0 ∨ sg = 1) with e | e <;> rw [e] <;> rfl
  have HSG : Hid _ := esg
  have hcase : (ex = 255 ∧ fr ≠ 0 ∧ Hid (numOf Ieee.single b = .nan)) ∨ (ex = 255 ∧ fr = 0 ∧ Hid (numOf Ieee.single b = .inf (b / 2147483648 % 2 == 1))) ∨
      (ex = 0 ∧ Hid (numOf Ieee.single b = .fin (b / 2147483648 % 2 == 1) fr (-149) false)) ∨ (ex ≠ 0 ∧ ex ≠ 255 ∧ Hid (numOf Ieee.single b = .fin (b / 2147483648 % 2 == 1) (fr + 8388608) ((ex : Int) - 150) false)) := by
    by_cases h1 : ex = 255
    · by_cases h2 : fr = 0
      · exact Or.inr (Or.inl ⟨h1, h2, numOf_inf (by omega) (by omega)⟩)
      · exact Or.inl ⟨h1, h2, numOf_nan (by omega) (by omega)⟩
    · by_cases h3 : ex = 0
      · exact Or.inr (Or.inr (Or.inl ⟨h3, by rw [hfr]; exact numOf_small (by omega)⟩))
      · exact Or.inr (Or.inr (Or.inr ⟨h3, h1, by rw [hfr, hex]; exact numOf_norm (by omega) (by omega)⟩))
  clear hsg hex hfr esg
  have w1 : IntKind.u64.wrap 255 = 255 := by decide
  have w2 : IntKind.u64.wrap 8388608 = 8388608 := by decide
  have w3 : IntKind.u64.wrap 8388607 = 8388607 := by decide
  have w4 : IntKind.i64.wrap (-149) = -149 := by decide
  rcases hcase with ⟨rfl, h2, HR⟩ | ⟨rfl, rfl, HR⟩ | ⟨rfl, HR⟩ | ⟨h1, h2, HR⟩
  · have h2b : ((fr : Int) != 0) = true := by simp; omega
    go_enter Try.func23, Try.ntmps23
    go_wp2_with fail
    go_region_held3 (fun w' => w'.cell? ⟨w.heap.size, 0, none⟩ = some (.int .i64 23) ∧ w'.cell? ⟨w.heap.size, 1, none⟩ = some (.int .i64 8)) (first | (simp [go_sem]; done) | go_keep) (first | (go_at_call 62; refine (top_any 23 8 255 (by decide) _).mono ?_; rintro e w1 ⟨rfl, rfl⟩))
    go_wp2_with fail
    refine (top_any 23 8 255 (by decide) _).mono ?_
    rintro e v1 ⟨rfl, rfl⟩
    go_wp2_with fail
    refine bodyPost_ret (v := .agg #[.int .i64 0, .bool false, .slice none 0 0, .int .i64 0, .bool false]) (by simp [results, Try.results23, go_sem]) rfl ⟨_, rfl, ?_, ?_⟩
    · rw [HR.out]; exact ⟨_, _, _, rfl⟩
    · exact (((((Q.refl w).cells _ _).cells _ _).cells _ _).cells _ _).drew
  · go_enter Try.func23, Try.ntmps23
    go_wp2_with fail
    go_region_held3 (fun w' => w'.cell? ⟨w.heap.size, 0, none⟩ = some (.int .i64 23) ∧ w'.cell? ⟨w.heap.size, 1, none⟩ = some (.int .i64 8)) (first | (simp [go_sem]; done) | go_keep) (first | (go_at_call 62; refine (top_any 23 8 255 (by decide) _).mono ?_; rintro e w1 ⟨rfl, rfl⟩))
    go_wp2_with fail
    refine (top_any 23 8 255 (by decide) _).mono ?_
    rintro e v1 ⟨rfl, rfl⟩
    go_wp2_with fail
    refine bodyPost_ret (v := .agg #[.int .i64 1, .bool ((sg : Int) == 1), .slice none 0 0, .int .i64 0, .bool false]) (by simp [results, Try.results23, go_sem]) rfl ⟨_, rfl, ?_, ?_⟩
    · rw [HR.out, HSG.out]; exact ⟨_, _, rfl⟩
    · exact (((((Q.refl w).cells _ _).cells _ _).cells _ _).cells _ _).drew
  · go_enter Try.func23, Try.ntmps23
    go_wp2_with fail
    go_region_held3 (fun w' => w'.cell? ⟨w.heap.size, 0, none⟩ = some (.int .i64 23) ∧ w'.cell? ⟨w.heap.size, 1, none⟩ = some (.int .i64 8)) (first | (simp [go_sem]; done) | go_keep) (first | (go_at_call 62; refine (top_any 23 8 255 (by decide) _).mono ?_; rintro e w1 ⟨rfl, rfl⟩))
    go_wp2_with fail
    refine (top_any 23 8 255 (by decide) _).mono ?_
    rintro e v1 ⟨rfl, rfl⟩
    go_wp2_with fail
    go_region_held3 (fun w' => w'.cell? ⟨w.heap.size, 0, none⟩ = some (.int .i64 23) ∧ w'.cell? ⟨w.heap.size, 1, none⟩ = some (.int .i64 8)) (first | (simp [go_sem]; done) | go_keep) (first | (go_at_call 30; refine (natof_any fr _ (by omega)).mono ?_; rintro e w1 ⟨C, rfl, rfl⟩) | (go_at_call 63; refine (bias_any 23 8 150 (by decide) _).mono ?_; rintro e w1 ⟨rfl, rfl⟩))
    all_goals
      go_wp2
      refine bodyPost_ret (v := .agg #[.int .i64 2, .bool ((sg : Int) == 1), .slice (some ⟨w.heap.size + 1 + 1 + 1 + 1, 0, none⟩) (len64 fr) C, .int .i64 (-149), .bool false]) (by simp [results, Try.results23, go_sem]) rfl ⟨_, rfl, ?_, ?_⟩
      · rw [HR.out, HSG.out]
        exact ⟨_, rfl, natAt_two (by omega) (by simp [go_sem]) (by simp [go_sem])⟩
      · exact (((((((Q.refl w).cells _ _).cells _ _).cells _ _).cells _ _).cells _ _).cells _ _).drew.drew.drew
  · have h1b : ((ex : Int) == 255) = false := by simp; omega
    have h2b : ((ex : Int) == 0) = false := by simp; omega
    obtain ⟨M, hM⟩ : ∃ M, M = fr + 8388608 := ⟨_, rfl⟩
    rw [← hM] at e4
    have hMb : M < 18446744073709551616 := by omega
    have w5 : IntKind.i64.wrap ((ex : Int) - 150) = (ex : Int) - 150 := by rw [IntKind.wrap_i64]; omega
    have w6 : IntKind.i64.wrap (ex : Int) = (ex : Int) := by rw [IntKind.wrap_i64]; omega
    have HM : Hid _ := hM
    clear hM
    go_enter Try.func23, Try.ntmps23
    go_wp2_with fail
    go_region_held3 (fun w' => w'.cell? ⟨w.heap.size, 0, none⟩ = some (.int .i64 23) ∧ w'.cell? ⟨w.heap.size, 1, none⟩ = some (.int .i64 8)) (first | (simp [go_sem]; done) | go_keep) (first | (go_at_call 62; refine (top_any 23 8 255 (by decide) _).mono ?_; rintro e w1 ⟨rfl, rfl⟩))
    go_wp2_with fail
    refine (top_any 23 8 255 (by decide) _).mono ?_
    rintro e v1 ⟨rfl, rfl⟩
    go_wp2_with fail
    go_region_held3 (fun w' => w'.cell? ⟨w.heap.size, 0, none⟩ = some (.int .i64 23) ∧ w'.cell? ⟨w.heap.size, 1, none⟩ = some (.int .i64 8)) (first | (simp [go_sem]; done) | go_keep) (first | (go_at_call 30; refine (natof_any M _ hMb).mono ?_; rintro e w1 ⟨C, rfl, rfl⟩) | (go_at_call 63; refine (bias_any 23 8 150 (by decide) _).mono ?_; rintro e w1 ⟨rfl, rfl⟩))
    all_goals
      go_wp2
      refine bodyPost_ret (v := .agg #[.int .i64 2, .bool ((sg : Int) == 1), .slice (some ⟨w.heap.size + 1 + 1 + 1 + 1, 0, none⟩) (len64 M) C, .int .i64 ((ex : Int) - 150), .bool false]) (by simp [results, Try.results23, go_sem]) rfl ⟨_, rfl, ?_, ?_⟩
      · rw [HR.out, HSG.out, ← HM.out]
        exact ⟨_, rfl, natAt_two hMb (by simp [go_sem]) (by simp [go_sem])⟩
      · exact (((((((Q.refl w).cells _ _).cells _ _).cells _ _).cells _ _).cells _ _).cells _ _).drew.drew.drew
end Go.Proofs.Ytgpkcclapkdndab
