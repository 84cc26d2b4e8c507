/- What the reference's Of returns at binary64, and F64. -/
import Derived.Test.YtedafbbpcpebbaaG79cd64db
namespace Go.Proofs.Ytedafbbpcpebbaa
open Go.RowKit

set_option maxHeartbeats 800000 in
theorem f64_any (w : World) : Calls Try.prog 65 #[] w fun e w' => e = .returned (.agg #[.int .i64 52, .int .i64 11]) ∧ Q w w' := by
  go_enter Try.func65, Try.ntmps65
  go_wp2
  exact bodyPost_ret (v := .agg #[.int .i64 52, .int .i64 11]) (by simp [results, Try.results65, go_sem]) rfl ⟨rfl, (Q.refl w).cells _ _⟩

theorem numOf_nan64 {b : Nat} (h1 : b / 4503599627370496 % 2048 = 2047) (h2 : b % 4503599627370496 ≠ 0) : numOf Ieee.double b = .nan := by
  unfold numOf Ieee.Format.read
  simp only [double_sign, double_binade, double_inf, double_least]
  rw [if_neg (by omega), if_neg (by omega), if_neg (by omega)]
theorem numOf_inf64 {b : Nat} (h1 : b / 4503599627370496 % 2048 = 2047) (h2 : b % 4503599627370496 = 0) : numOf Ieee.double b = .inf (b / 9223372036854775808 % 2 == 1) := by
  unfold numOf Ieee.Format.read
  simp only [double_sign, double_binade, double_inf, double_least]
  rw [if_neg (by omega), if_neg (by omega), if_pos (by omega)]
theorem numOf_small64 {b : Nat} (h1 : b / 4503599627370496 % 2048 = 0) : numOf Ieee.double b = .fin (b / 9223372036854775808 % 2 == 1) (b % 4503599627370496) (-1074) false := by
  unfold numOf Ieee.Format.read
  simp only [double_sign, double_binade, double_inf, double_least]
  rw [if_pos (by omega)]
  have : b % 9223372036854775808 = b % 4503599627370496 := by omega
  rw [this]
theorem numOf_norm64 {b : Nat} (h1 : b / 4503599627370496 % 2048 ≠ 0) (h2 : b / 4503599627370496 % 2048 ≠ 2047) :
    numOf Ieee.double b = .fin (b / 9223372036854775808 % 2 == 1) (b % 4503599627370496 + 4503599627370496) (((b / 4503599627370496 % 2048 : Nat) : Int) - 1075) false := by
  unfold numOf Ieee.Format.read
  simp only [double_sign, double_binade, double_inf, double_least]
  rw [if_neg (by omega), if_pos (by omega)]
  have e1 : 4503599627370496 + b % 9223372036854775808 % 4503599627370496 = b % 4503599627370496 + 4503599627370496 := by omega
  have e2 : (-1074 : Int) + ((b % 9223372036854775808 / 4503599627370496 - 1 : Nat) : Int) = ((b / 4503599627370496 % 2048 : Nat) : Int) - 1075 := by omega
  rw [e1, e2]

/-- The bits of a binary64 word among 64. -/
theorem of_bits64 {b : Nat} (hb : b < 18446744073709551616) :
    bits .and .u64 ((b : Int) / 9223372036854775808) 1 = ((b / 9223372036854775808 % 2 : Nat) : Int) ∧
    bits .and .u64 ((b : Int) / 4503599627370496) 2047 = ((b / 4503599627370496 % 2048 : Nat) : Int) ∧
    bits .and .u64 (b : Int) 4503599627370495 = ((b % 4503599627370496 : Nat) : Int) ∧
    bits .or .u64 ((b % 4503599627370496 : Nat) : Int) 4503599627370496 = ((b % 4503599627370496 + 4503599627370496 : Nat) : Int) := by
  refine ⟨?_, ?_, ?_, ?_⟩
  · have := u64_and1 (x := b / 9223372036854775808) (by omega)
    exact this
  · have : bits .and .u64 ((b : Int) / 4503599627370496) 2047 = (b : Int) / 4503599627370496 % 2048 := by go_bits2
    rw [this]; omega
  · have : bits .and .u64 (b : Int) 4503599627370495 = (b : Int) % 4503599627370496 := by go_bits2
    rw [this]; omega
  · rw [show (4503599627370496 : Int) = ((4503599627370496 : Nat) : Int) from rfl, u64_or_nat _ _ (by omega) (by decide), Nat.or_comm,
      show (4503599627370496 : Nat) = 2 ^ 52 * 1 from rfl, ← Nat.two_pow_add_eq_or_of_lt (i := 52) (by omega) 1]
    omega

set_option maxHeartbeats 4000000 in
theorem of64_any (b : Nat) (w : World) (hb : b < 18446744073709551616) :
    Calls Try.prog 55 #[.agg #[.int .i64 52, .int .i64 11], .int .u64 b] w fun e w' => ∃ v, e = .returned v ∧ NumAt w' v (numOf Ieee.double b) ∧ Q w w' := by
  obtain ⟨e1, e2, e3, e4⟩ := of_bits64 hb
  obtain ⟨sg, hsg⟩ : ∃ sg : Nat, sg = b / 9223372036854775808 % 2 := ⟨_, rfl⟩
  obtain ⟨ex, hex⟩ : ∃ ex : Nat, ex = b / 4503599627370496 % 2048 := ⟨_, rfl⟩
  obtain ⟨fr, hfr⟩ : ∃ fr : Nat, fr = b % 4503599627370496 := ⟨_, rfl⟩
  rw [← hsg] at e1
  rw [← hex] at e2
  rw [← hfr] at e3 e4
  have xb : ex ≤ 2047 := by omega
  have fb : fr < 4503599627370496 := by omega
  have esg : ((sg : Int) == 1) = (b / 9223372036854775808 % 2 == 1) := by
    rw [← hsg]
    rcases (by omega : sg = 0 ∨ sg = 1) with e | e <;> rw [e] <;> rfl
  have HSG : Hid _ := esg
  have hcase : (ex = 2047 ∧ fr ≠ 0 ∧ Hid (numOf Ieee.double b = .nan)) ∨ (ex = 2047 ∧ fr = 0 ∧ Hid (numOf Ieee.double b = .inf (b / 9223372036854775808 % 2 == 1))) ∨
      (ex = 0 ∧ Hid (numOf Ieee.double b = .fin (b / 9223372036854775808 % 2 == 1) fr (-1074) false)) ∨ (ex ≠ 0 ∧ ex ≠ 2047 ∧ Hid (numOf Ieee.double b = .fin (b / 9223372036854775808 % 2 == 1) (fr + 4503599627370496) ((ex : Int) - 1075) false)) := by
    by_cases h1 : ex = 2047
    · by_cases h2 : fr = 0
      · exact Or.inr (Or.inl ⟨h1, h2, numOf_inf64 (by omega) (by omega)⟩)
      · exact Or.inl ⟨h1, h2, numOf_nan64 (by omega) (by omega)⟩
    · by_cases h3 : ex = 0
      · exact Or.inr (Or.inr (Or.inl ⟨h3, by rw [hfr]; exact numOf_small64 (by omega)⟩))
      · exact Or.inr (Or.inr (Or.inr ⟨h3, h1, by rw [hfr, hex]; exact numOf_norm64 (by omega) (by omega)⟩))
  clear hsg hex hfr esg
  have w1 : IntKind.u64.wrap 2047 = 2047 := by decide
  have w2 : IntKind.u64.wrap 4503599627370496 = 4503599627370496 := by decide
  have w3 : IntKind.u64.wrap 4503599627370495 = 4503599627370495 := by decide
  have w4 : IntKind.i64.wrap (-1074) = -1074 := by decide
  rcases hcase with ⟨rfl, h2, HR⟩ | ⟨rfl, rfl, HR⟩ | ⟨rfl, HR⟩ | ⟨h1, h2, HR⟩
  · have h2b : ((fr : Int) != 0) = true := by simp; omega
    go_enter Try.func55, Try.ntmps55
    go_wp2_with fail
    go_region_held3 (fun w' => w'.cell? ⟨w.heap.size, 0, none⟩ = some (.int .i64 52) ∧ w'.cell? ⟨w.heap.size, 1, none⟩ = some (.int .i64 11)) (first | (simp [go_sem]; done) | go_keep) (first | (go_at_call 82; refine (top_any 52 11 2047 (by decide) _).mono ?_; rintro e w1 ⟨rfl, rfl⟩))
    go_wp2_with fail
    refine (top_any 52 11 2047 (by decide) _).mono ?_
    rintro e v1 ⟨rfl, rfl⟩
    go_wp2_with fail
    refine bodyPost_ret (v := .agg #[.int .i64 0, .bool false, .slice none 0 0, .int .i64 0, .bool false]) (by simp [results, Try.results55, go_sem]) rfl ⟨_, rfl, ?_, ?_⟩
    · rw [HR.out]; exact ⟨_, _, _, rfl⟩
    · exact (((((Q.refl w).cells _ _).cells _ _).cells _ _).cells _ _).drew
  · go_enter Try.func55, Try.ntmps55
    go_wp2_with fail
    go_region_held3 (fun w' => w'.cell? ⟨w.heap.size, 0, none⟩ = some (.int .i64 52) ∧ w'.cell? ⟨w.heap.size, 1, none⟩ = some (.int .i64 11)) (first | (simp [go_sem]; done) | go_keep) (first | (go_at_call 82; refine (top_any 52 11 2047 (by decide) _).mono ?_; rintro e w1 ⟨rfl, rfl⟩))
    go_wp2_with fail
    refine (top_any 52 11 2047 (by decide) _).mono ?_
    rintro e v1 ⟨rfl, rfl⟩
    go_wp2_with fail
    refine bodyPost_ret (v := .agg #[.int .i64 1, .bool ((sg : Int) == 1), .slice none 0 0, .int .i64 0, .bool false]) (by simp [results, Try.results55, go_sem]) rfl ⟨_, rfl, ?_, ?_⟩
    · rw [HR.out, HSG.out]; exact ⟨_, _, rfl⟩
    · exact (((((Q.refl w).cells _ _).cells _ _).cells _ _).cells _ _).drew
  · go_enter Try.func55, Try.ntmps55
    go_wp2_with fail
    go_region_held3 (fun w' => w'.cell? ⟨w.heap.size, 0, none⟩ = some (.int .i64 52) ∧ w'.cell? ⟨w.heap.size, 1, none⟩ = some (.int .i64 11)) (first | (simp [go_sem]; done) | go_keep) (first | (go_at_call 82; refine (top_any 52 11 2047 (by decide) _).mono ?_; rintro e w1 ⟨rfl, rfl⟩))
    go_wp2_with fail
    refine (top_any 52 11 2047 (by decide) _).mono ?_
    rintro e v1 ⟨rfl, rfl⟩
    go_wp2_with fail
    go_region_held3 (fun w' => w'.cell? ⟨w.heap.size, 0, none⟩ = some (.int .i64 52) ∧ w'.cell? ⟨w.heap.size, 1, none⟩ = some (.int .i64 11)) (first | (simp [go_sem]; done) | go_keep) (first | (go_at_call 58; refine (natof_any fr _ (by omega)).mono ?_; rintro e w1 ⟨C, rfl, rfl⟩) | (go_at_call 83; refine (bias_any 52 11 1075 (by decide) _).mono ?_; rintro e w1 ⟨rfl, rfl⟩))
    all_goals
      go_wp2
      refine bodyPost_ret (v := .agg #[.int .i64 2, .bool ((sg : Int) == 1), .slice (some ⟨w.heap.size + 1 + 1 + 1 + 1, 0, none⟩) (len64 fr) C, .int .i64 (-1074), .bool false]) (by simp [results, Try.results55, go_sem]) rfl ⟨_, rfl, ?_, ?_⟩
      · rw [HR.out, HSG.out]
        exact ⟨_, rfl, natAt_two (by omega) (by simp [go_sem]) (by simp [go_sem])⟩
      · exact (((((((Q.refl w).cells _ _).cells _ _).cells _ _).cells _ _).cells _ _).cells _ _).drew.drew.drew
  · have h1b : ((ex : Int) == 2047) = false := by simp; omega
    have h2b : ((ex : Int) == 0) = false := by simp; omega
    obtain ⟨M, hM⟩ : ∃ M, M = fr + 4503599627370496 := ⟨_, rfl⟩
    rw [← hM] at e4
    have hMb : M < 18446744073709551616 := by omega
    have w5 : IntKind.i64.wrap ((ex : Int) - 1075) = (ex : Int) - 1075 := by rw [IntKind.wrap_i64]; omega
    have w6 : IntKind.i64.wrap (ex : Int) = (ex : Int) := by rw [IntKind.wrap_i64]; omega
    have HM : Hid _ := hM
    clear hM
    go_enter Try.func55, Try.ntmps55
    go_wp2_with fail
    go_region_held3 (fun w' => w'.cell? ⟨w.heap.size, 0, none⟩ = some (.int .i64 52) ∧ w'.cell? ⟨w.heap.size, 1, none⟩ = some (.int .i64 11)) (first | (simp [go_sem]; done) | go_keep) (first | (go_at_call 82; refine (top_any 52 11 2047 (by decide) _).mono ?_; rintro e w1 ⟨rfl, rfl⟩))
    go_wp2_with fail
    refine (top_any 52 11 2047 (by decide) _).mono ?_
    rintro e v1 ⟨rfl, rfl⟩
    go_wp2_with fail
    go_region_held3 (fun w' => w'.cell? ⟨w.heap.size, 0, none⟩ = some (.int .i64 52) ∧ w'.cell? ⟨w.heap.size, 1, none⟩ = some (.int .i64 11)) (first | (simp [go_sem]; done) | go_keep) (first | (go_at_call 58; refine (natof_any M _ hMb).mono ?_; rintro e w1 ⟨C, rfl, rfl⟩) | (go_at_call 83; refine (bias_any 52 11 1075 (by decide) _).mono ?_; rintro e w1 ⟨rfl, rfl⟩))
    all_goals
      go_wp2
      refine bodyPost_ret (v := .agg #[.int .i64 2, .bool ((sg : Int) == 1), .slice (some ⟨w.heap.size + 1 + 1 + 1 + 1, 0, none⟩) (len64 M) C, .int .i64 ((ex : Int) - 1075), .bool false]) (by simp [results, Try.results55, go_sem]) rfl ⟨_, rfl, ?_, ?_⟩
      · rw [HR.out, HSG.out, ← HM.out]
        exact ⟨_, rfl, natAt_two hMb (by simp [go_sem]) (by simp [go_sem])⟩
      · exact (((((((Q.refl w).cells _ _).cells _ _).cells _ _).cells _ _).cells _ _).cells _ _).drew.drew.drew
end Go.Proofs.Ytedafbbpcpebbaa
/- Plain facts: the reference's word of binary64, put together. -/
namespace Go.Proofs.Ytedafbbpcpebbaa
open Go.RowKit

/-- The word that the reference puts together. -/
theorem or_word_64 {neg : Bool} {r : Nat} (hr : r < 9223372036854775808) : bits .or .u64 (signV true neg) (r : Int) = ((Ieee.double.word neg r : Nat) : Int) := by
  unfold Ieee.Format.word signV
  rw [double_sign]
  cases neg
  · show bits .or .u64 ((0 : Nat) : Int) (r : Int) = _
    rw [u64_or_nat _ _ (by decide) (by omega), Nat.zero_or]; rfl
  · show bits .or .u64 ((9223372036854775808 : Nat) : Int) (r : Int) = _
    rw [u64_or_nat _ _ (by decide) (by omega), show (9223372036854775808 : Nat) = 2 ^ 63 * 1 from rfl, ← Nat.two_pow_add_eq_or_of_lt (i := 63) hr 1]
    rfl
theorem or_word2_64 {neg : Bool} {x fr : Nat} (hx : x < 2048) (hf : fr < 4503599627370496) :
    bits .or .u64 ((Ieee.double.word neg (x * 4503599627370496) : Nat) : Int) (fr : Int) = ((Ieee.double.word neg (x * 4503599627370496 + fr) : Nat) : Int) := by
  have e : Ieee.double.word neg (x * 4503599627370496) = 2 ^ 52 * ((if neg = true then 2048 else 0) + x) := by
    unfold Ieee.Format.word; rw [double_sign]; cases neg <;> simp <;> omega
  have e2 : Ieee.double.word neg (x * 4503599627370496 + fr) = 2 ^ 52 * ((if neg = true then 2048 else 0) + x) + fr := by
    unfold Ieee.Format.word; rw [double_sign]; cases neg <;> simp <;> omega
  have hb : (if neg = true then 2048 else 0) ≤ 2048 := by split <;> omega
  rw [e2, e, u64_or_nat _ _ (by omega) (by omega), ← Nat.two_pow_add_eq_or_of_lt (i := 52) hf]
theorem word_lt_64 {neg : Bool} {r : Nat} (hr : r < 9223372036854775808) : Ieee.double.word neg r < 18446744073709551616 := by
  unfold Ieee.Format.word; rw [double_sign]; split <;> omega

/-- Carried where it must be: what is kept, and its place. -/
theorem carried_64 {n K : Nat} {T : Int} {R : Nat} (h1 : K ≤ 2 * 4503599627370496) (h2 : -1074 ≤ T) (h3 : K < 4503599627370496 → T = -1074 ∨ n = 0) (h0 : n = 0 → K = 0)
    (h4 : R = if n = 0 then 0 else min ((T - -1074).toNat * 4503599627370496 + K) 9218868437227405312) :
    ∃ (K' : Nat) (T' : Int), K' < 9007199254740992 ∧ -1074 ≤ T' ∧ T' ≤ T + 1 ∧ ((K = 9007199254740992 ∧ K' = 4503599627370496 ∧ T' = T + 1) ∨ (K < 9007199254740992 ∧ K' = K ∧ T' = T)) ∧
      (K' < 4503599627370496 → R = K') ∧ (4503599627370496 ≤ K' → R = min ((T' + 1074).toNat * 4503599627370496 + K') 9218868437227405312) := by
  by_cases hK : K = 9007199254740992
  · refine ⟨4503599627370496, T + 1, by decide, by omega, by omega, Or.inl ⟨hK, rfl, rfl⟩, fun h => absurd h (by decide), fun _ => ?_⟩
    have : n ≠ 0 := fun e => by have := h0 e; omega
    rw [h4, if_neg this]
    have e1 : (T + 1 + 1074).toNat = (T - -1074).toNat + 1 := by omega
    have e2 : ∀ y : Nat, y * 4503599627370496 + 9007199254740992 = (y + 1) * 4503599627370496 + 4503599627370496 := fun y => by omega
    rw [e1, hK, e2]
  · refine ⟨K, T, by omega, h2, by omega, Or.inr ⟨by omega, rfl, rfl⟩, fun h => ?_, fun h => ?_⟩
    · rw [h4]
      by_cases hn : n = 0
      · rw [if_pos hn, h0 hn]
      · rw [if_neg hn]
        rcases h3 h with g | g
        · rw [g]; simp; omega
        · exact absurd g hn
    · have : n ≠ 0 := fun e => by have := h0 e; omega
      rw [h4, if_neg this]
      rw [show (T - -1074).toNat = (T + 1074).toNat by omega]
end Go.Proofs.Ytedafbbpcpebbaa
