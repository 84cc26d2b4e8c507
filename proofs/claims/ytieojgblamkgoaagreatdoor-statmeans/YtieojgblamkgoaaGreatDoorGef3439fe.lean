/- stat, plain: the mean of finite samples lies between their ends. -/
import Derived.Test.YtieojgblamkgoaaGreatDoorGbc27328e
import Derived.Test.YtieojgblamkgoaaGreatDoorGe7d91a88
import Derived.Test.YtieojgblamkgoaaGreatDoorG32ddf2d0
import Derived.Test.YtieojgblamkgoaaGreatDoorG68e1c248
import Derived.Test.YtieojgblamkgoaaGreatDoorGf88f0262
import Derived.Test.YtieojgblamkgoaaGreatDoorGf196db84
import Derived.Test.YtieojgblamkgoaaGreatDoorGa75617b7
import Derived.Test.YtieojgblamkgoaaGreatDoorG4085d0f8
namespace Go.Proofs.YtieojgblamkgoaaGreatDoor
open Go.RowKit
set_option linter.unusedVariables false
set_option linter.unusedSimpArgs false

theorem ex_exact {d X : Nat} (hd : 0 < d) : exR (d * X) d = rungOf Ieee.single X (-151) := by
  unfold exR
  rw [sqV_zero, Nat.mul_div_cancel_left _ hd, Nat.mul_mod_right, if_pos rfl, Nat.add_zero, Nat.mul_comm 2 X]
  have := rung_scale Ieee.single X 1 (-152)
  rw [Nat.pow_one] at this
  rw [this]
  rfl
theorem ex_mono {d V U : Nat} (hd : 0 < d) (h : V ≤ U) : exR V d ≤ exR U d := rung_mono _ _ (sqV_mono hd h)
/-- A quotient's signed rung. -/
def erg (d : Nat) (z : Int) : Int := if z < 0 then -(exR z.natAbs d : Int) else (exR z.natAbs d : Int)
theorem erg_mono {d : Nat} (hd : 0 < d) {y z : Int} (h : y ≤ z) : erg d y ≤ erg d z := by
  unfold erg
  by_cases hy : y < 0
  · rw [if_pos hy]
    by_cases hz : z < 0
    · rw [if_pos hz]
      have := ex_mono hd (show z.natAbs ≤ y.natAbs by omega)
      omega
    · rw [if_neg hz]; omega
  · rw [if_neg hy, if_neg (by omega)]
    have := ex_mono hd (show y.natAbs ≤ z.natAbs by omega)
    omega
theorem un_vals (s : Nat) : szS s * 2 ^ atS s = val32 (rung32 s) * 4 := by
  unfold szS atS val32 mag32 plc32 rung32
  have e : s % 2147483648 / 8388608 = s / 8388608 % 256 := by omega
  rw [e]
  by_cases h : s / 8388608 % 256 = 0
  · rw [if_pos h, if_pos h, h]
    have : s % 2147483648 = s % 8388608 := by omega
    rw [this]
    simp
  · rw [if_neg h, if_neg h]
    obtain ⟨k, hk⟩ : ∃ k, s / 8388608 % 256 = k + 1 := ⟨s / 8388608 % 256 - 1, by omega⟩
    rw [hk, Nat.add_sub_cancel, show k + 1 + 1 = k + 2 from rfl, Nat.pow_add, ← Nat.mul_assoc]
    have : s % 2147483648 - k * 8388608 = s % 8388608 + 8388608 := by omega
    rw [this]
theorem un_rung {a : Nat} (h : rung32 a < 2139095040) : rungOf Ieee.single (szS a * 2 ^ atS a) (-151) = rung32 a := by
  rw [un_vals]
  unfold val32
  rw [show mag32 (rung32 a) * 2 ^ plc32 (rung32 a) * 4 = mag32 (rung32 a) * 2 ^ (plc32 (rung32 a) + 2) by rw [Nat.pow_add, Nat.mul_assoc], rung_scale, show (-151 + ((plc32 (rung32 a) + 2 : Nat) : Int)) = -149 + (plc32 (rung32 a) : Int) by omega]
  exact self32 h
theorem ex_zero {d : Nat} (hd : 0 < d) : exR 0 d = 0 := by
  have := ex_exact (X := 0) hd
  rw [Nat.mul_zero] at this
  rw [this]
  exact rungOf_zero _ _
theorem erg_un {d a : Nat} (hd : 0 < d) (ha : a < 4294967296) (h : rung32 a < 2139095040) : erg d ((d : Int) * unZ a) = srung32 a := by
  have hr := un_rung h
  have hx : exR (d * (szS a * 2 ^ atS a)) d = rung32 a := by rw [ex_exact hd, hr]
  have hg : sgn32 a = decide (2147483648 ≤ a) := by
    unfold sgn32
    by_cases c : 2147483648 ≤ a
    · rw [decide_eq_true c]; exact decide_eq_true (by omega)
    · rw [decide_eq_false c]; exact decide_eq_false (by omega)
  unfold srung32 unZ
  rw [hg]
  generalize szS a * 2 ^ atS a = X at *
  by_cases c : a < 2147483648
  · rw [if_pos c, decide_eq_false (by omega), if_neg (by decide)]
    unfold erg
    rw [if_neg (by have := Int.mul_nonneg (Int.natCast_nonneg d) (Int.natCast_nonneg X); omega), ← Int.natCast_mul, Int.natAbs_natCast, hx]
  · rw [if_neg c, decide_eq_true (by omega), if_pos rfl]
    rcases Nat.eq_zero_or_pos X with z | z
    · subst z
      rw [Nat.mul_zero, ex_zero hd] at hx
      rw [← hx]
      simp [erg, ex_zero hd]
    · have hp : (0 : Int) < ((d * X : Nat) : Int) := by have := Nat.mul_pos hd z; omega
      unfold erg
      rw [Int.mul_neg, ← Int.natCast_mul, if_pos (by omega), Int.natAbs_neg, Int.natAbs_natCast, hx]
theorem kind_finite {s : Nat} (h : rung32 s < 2139095040) : kindV s < 4 ∧ unK s = unZ s := by
  have h' : s % 2147483648 < 2139095040 := h
  unfold unK
  by_cases e : s = 2147483648
  · subst e
    exact ⟨by decide, by decide⟩
  · have hk : kindV s = 2 := by
      unfold kindV
      rw [if_neg e, if_pos h']
    rw [hk]
    exact ⟨by decide, by simp⟩
theorem met_finite {L : List Nat} (h : ∀ s ∈ L, rung32 s < 2139095040) : metV L < 4 := by
  induction L using snoc_ind with
  | h0 => decide
  | h1 l s ih =>
    rw [metV_snoc]
    exact Nat.or_lt_two_pow (n := 2) (ih (fun x hx => h x (List.mem_append_left _ hx))) (kind_finite (h s (by simp))).1
theorem un_key {a b : Nat} (ha : a < 4294967296) (hb : b < 4294967296) (h : keyN a ≤ keyN b) : unZ a ≤ unZ b := by
  unfold unZ
  rw [un_vals, un_vals]
  unfold keyN at h
  have r1 : rung32 a = a % 2147483648 := rfl
  have r2 : rung32 b = b % 2147483648 := rfl
  by_cases c : a < 2147483648
  · by_cases d : b < 2147483648
    · rw [if_pos c, if_pos d] at h ⊢
      have := val_le32 (show rung32 a ≤ rung32 b by omega)
      omega
    · rw [if_pos c, if_neg d] at h
      omega
  · by_cases d : b < 2147483648
    · rw [if_neg c, if_pos d]
      omega
    · rw [if_neg c, if_neg d] at h ⊢
      have := val_le32 (show rung32 b ≤ rung32 a by omega)
      omega
theorem sum_between {L : List Nat} {lo hi : Int} (h : ∀ s ∈ L, lo ≤ unK s ∧ unK s ≤ hi) : (L.length : Int) * lo ≤ sumZ L ∧ sumZ L ≤ (L.length : Int) * hi := by
  induction L using snoc_ind with
  | h0 => exact ⟨by simp [sumZ], by simp [sumZ]⟩
  | h1 l s ih =>
    obtain ⟨i1, i2⟩ := ih (fun x hx => h x (List.mem_append_left _ hx))
    obtain ⟨j1, j2⟩ := h s (by simp)
    rw [sumZ_snoc, List.length_append, List.length_singleton, Int.natCast_add, Int.add_mul, Int.add_mul]
    simp only [Int.natCast_one, Int.one_mul] at *
    omega
theorem srung_sum {L : List Nat} {d : Nat} (hd : 0 < d) (h : metV L < 4) : srung32 (sumV L d) = erg d (sumZ L) ∧ nanN (sumV L d) = false ∧ sumV L d < 4294967296 := by
  unfold sumV
  rw [if_pos h]
  by_cases z : sumZ L = 0
  · rw [if_neg (fun k => k z), z]
    have : erg d 0 = 0 := by simp [erg, ex_zero hd]
    rw [this]
    split <;> decide
  · rw [if_pos z]
    unfold exV
    have hle : exR (sumZ L).natAbs d ≤ 2139095040 := by have := rungOf_le Ieee.single (sqV (sumZ L).natAbs d 0) (-152); rw [inf32] at this; exact this
    obtain ⟨a, b⟩ := sgn_word32 (decide (sumZ L < 0)) (r := exR (sumZ L).natAbs d) (by omega)
    refine ⟨?_, nanN_word hle, ?_⟩
    · unfold srung32 erg
      rw [a, b]
      by_cases k : sumZ L < 0
      · rw [if_pos k, if_pos (decide_eq_true k)]
      · rw [if_neg k, if_neg (by simp; omega)]
    · exact word_lt (by omega)
/-- The mean lies between. -/
theorem smean_between {L : List Nat} (hL : ∀ s ∈ L, s < 4294967296 ∧ rung32 s < 2139095040) (h0 : 0 < L.length) {a b : Nat} (ha : a ∈ L) (hb : b ∈ L) (hab : ∀ s ∈ L, keyN a ≤ keyN s ∧ keyN s ≤ keyN b) :
    srung32 a ≤ srung32 (sumV L L.length) ∧ srung32 (sumV L L.length) ≤ srung32 b ∧ nanN (sumV L L.length) = false := by
  obtain ⟨s1, s2, s3⟩ := srung_sum (d := L.length) h0 (met_finite (fun s hs => (hL s hs).2))
  obtain ⟨b1, b2⟩ := sum_between (L := L) (lo := unZ a) (hi := unZ b) (fun s hs => by
    rw [(kind_finite (hL s hs).2).2]
    exact ⟨un_key (hL a ha).1 (hL s hs).1 (hab s hs).1, un_key (hL s hs).1 (hL b hb).1 (hab s hs).2⟩)
  have e1 := erg_mono h0 b1
  have e2 := erg_mono h0 b2
  rw [erg_un h0 (hL a ha).1 (hL a ha).2] at e1
  rw [erg_un h0 (hL b hb).1 (hL b hb).2] at e2
  rw [s1]
  exact ⟨e1, e2, s2⟩
theorem srung_inj {a b : Nat} (ha : a < 4294967296) (hb : b < 4294967296) (h : srung32 a = srung32 b) (hz : srung32 a ≠ 0) : a = b := by
  have r1 : rung32 a = a % 2147483648 := rfl
  have r2 : rung32 b = b % 2147483648 := rfl
  have e : ∀ x : Nat, x < 4294967296 → srung32 x = if 2147483648 ≤ x then -((x % 2147483648 : Nat) : Int) else ((x % 2147483648 : Nat) : Int) := fun x hx => by
    have r : rung32 x = x % 2147483648 := rfl
    have g : sgn32 x = decide (2147483648 ≤ x) := by
      unfold sgn32
      by_cases c : 2147483648 ≤ x
      · rw [decide_eq_true c]; exact decide_eq_true (by omega)
      · rw [decide_eq_false c]; exact decide_eq_false (by omega)
    unfold srung32
    rw [g, r]
    by_cases c : 2147483648 ≤ x
    · rw [decide_eq_true c, if_pos rfl, if_pos c]
    · rw [decide_eq_false c, if_neg (by decide), if_neg c]
  rw [e a ha] at h hz
  rw [e b hb] at h
  split at h <;> split at h <;> split at hz <;> omega
theorem smean_one {s : Nat} (hs : s < 4294967296) (h : rung32 s < 2139095040) : sumV [s] 1 = s := by
  obtain ⟨k1, k2⟩ := kind_finite h
  have hz : sumZ [s] = unZ s := by
    have := sumZ_snoc [] s
    rw [List.nil_append] at this
    rw [this, k2]
    simp [sumZ]
  have hm : metV [s] = kindV s := by
    have := metV_snoc [] s
    rw [List.nil_append] at this
    rw [this]
    simp [metV]
  obtain ⟨s1, s2, s3⟩ := srung_sum (L := [s]) (d := 1) (by decide) (by rw [hm]; exact k1)
  have e := erg_un (d := 1) (a := s) (by decide) hs h
  rw [show ((1 : Nat) : Int) = 1 from rfl, Int.one_mul] at e
  rw [hz, e] at s1
  by_cases z : srung32 s = 0
  · have r1 : rung32 s = 0 := by unfold srung32 at z; split at z <;> omega
    have r2 : s % 2147483648 = 0 := r1
    rcases (show s = 0 ∨ s = 2147483648 by omega) with c | c
    · subst c; decide +kernel
    · subst c; decide +kernel
  · exact srung_inj s3 hs s1 (by rw [s1]; exact z)
end Go.Proofs.YtieojgblamkgoaaGreatDoor
/- stat, plain: what the statements ask of means. -/
namespace Go.Proofs.YtieojgblamkgoaaGreatDoor
open Go.RowKit
set_option linter.unusedVariables false
set_option linter.unusedSimpArgs false

theorem numL_fin {L : List Nat} (h : ∀ s ∈ L, nanN s = false) : numL L = L := by
  unfold numL
  rw [List.filter_eq_self]
  intro s hs
  rw [h s hs]; rfl
theorem fin_nan {s : Nat} (h : rung32 s < 2139095040) : nanN s = false := by
  unfold nanN
  exact decide_eq_false (by unfold rung32 at h; omega)
theorem ord_ge {x y : Nat} (hx : nanN x = false) (hy : nanN y = false) (h : srung32 y ≤ srung32 x) : (Ieee.single.order x y == some Ordering.gt || Ieee.single.order x y == some Ordering.eq) = true := by
  have h1 : rung32 x ≤ 2139095040 := by unfold nanN at hx; have := of_decide_eq_false hx; unfold rung32; omega
  have h2 : rung32 y ≤ 2139095040 := by unfold nanN at hy; have := of_decide_eq_false hy; unfold rung32; omega
  rw [order_num32 h1 h2, cmp_ge]
  exact decide_eq_true h
theorem ord_le {x y : Nat} (hx : nanN x = false) (hy : nanN y = false) (h : srung32 x ≤ srung32 y) : (Ieee.single.order x y == some Ordering.lt || Ieee.single.order x y == some Ordering.eq) = true := by
  have h1 : rung32 x ≤ 2139095040 := by unfold nanN at hx; have := of_decide_eq_false hx; unfold rung32; omega
  have h2 : rung32 y ≤ 2139095040 := by unfold nanN at hy; have := of_decide_eq_false hy; unfold rung32; omega
  rw [order_num32 h1 h2, cmp_le]
  exact decide_eq_true h
/-- What is told of finite samples. -/
theorem mean_told {L : List Nat} (hL : ∀ s ∈ L, s < 4294967296 ∧ rung32 s < 2139095040) (h0 : 0 < L.length) : ∃ m a b, smeanV L = (m, 0) ∧ endsV L = (a, b, 0) ∧ (Ieee.single.order m a == some Ordering.gt || Ieee.single.order m a == some Ordering.eq) = true ∧ (Ieee.single.order m b == some Ordering.lt || Ieee.single.order m b == some Ordering.eq) = true ∧ (L.length = 1 → m = L.getD 0 0) := by
  have hn := numL_fin (fun s hs => fin_nan (hL s hs).2)
  have hne : L ≠ [] := fun e => by rw [e] at h0; cases h0
  obtain ⟨a, b, ha, hb, ea, eb, hab⟩ := ends_some (fun s hs => (hL s hs).1) (by rw [hn]; exact hne)
  rw [hn] at ha hb hab
  obtain ⟨b1, b2, b3⟩ := smean_between hL h0 ha hb hab
  refine ⟨sumV L L.length, a, b, ?_, ?_, ?_, ?_, ?_⟩
  · unfold smeanV; rw [if_neg hne]
  · unfold endsV
    rw [if_neg (by rw [hn]; exact hne), ← ea, ← eb, fkey_key (hL a ha).1, fkey_key (hL b hb).1]
  · exact ord_ge b3 (fin_nan (hL a ha).2) b1
  · exact ord_le b3 (fin_nan (hL b hb).2) b2
  · intro h
    match L, h with
    | [x], _ => exact smean_one (hL x (by simp)).1 (hL x (by simp)).2
end Go.Proofs.YtieojgblamkgoaaGreatDoor
/- The document's Rank and Share (layer 16). -/
namespace Go.Proofs.YtieojgblamkgoaaGreatDoor
open Go.RowKit
set_option linter.unusedVariables false
set_option linter.unusedSimpArgs false

theorem and_31s (s : Int) (h0 : 0 ≤ s) (h1 : s ≤ 4294967295) : bits .and .u32 s 2147483647 = s % 2147483648 := by go_bits2
set_option maxHeartbeats 400000 in
theorem r4key_any (s : Nat) (hs : s < 4294967296) (w : World) : Calls Tryz.prog 59 #[.int .u32 s] w fun e w' => e = .returned (.int .i64 (keyN s : Nat)) ∧ w' = w := by
  by_cases h : s < 2147483648
  · have h' : (s : Int) < 2147483648 := by omega
    go_enter Tryz.func59, Tryz.ntmps59
    go_wp2
    go_ret
    exact ⟨ret_int (by unfold keyN; rw [if_pos h]; omega), rfl⟩
  · have h' : ¬ (s : Int) < 2147483648 := by omega
    go_enter Tryz.func59, Tryz.ntmps59
    go_wp2
    go_ret
    exact ⟨ret_int (by unfold keyN; rw [if_neg h]; omega), rfl⟩
set_option maxHeartbeats 400000 in
theorem r4nan_any (a : Nat) (ha : a < 4294967296) (w : World) : Calls Tryz.prog 61 #[.int .u32 a] w fun e w' => e = .returned (.bool (nanN a)) ∧ w' = w := by
  have e1 := and_31s a (by omega) (by omega)
  go_enter Tryz.func61, Tryz.ntmps61
  go_wp2
  go_ret
  refine ⟨ret_bool ?_, rfl⟩
  unfold nanN
  rw [decide_eq_decide]
  omega
set_option maxHeartbeats 8000000 in
set_option maxRecDepth 100000 in
theorem s16rank_any (v : Value) (S : List Nat) (k : Int) (w : World) (hv : USl w v S) (hb : ∀ i, S.getD i 0 < 4294967296) (hn : S.length ≤ 1000000) :
    Calls Tryz.prog 21 #[v, .int .i64 k] w fun e w' => e = .returned (.tuple #[.int .u32 ((srkV 0 S k).1 : Nat), .int .i64 (srkV 0 S k).2]) ∧ Q w w' := by
  obtain ⟨ad, cap, rfl⟩ := hv.form
  unfold srkV
  rw [if_neg (fun h => h rfl)]
  by_cases h0 : k < 0
  · rw [if_pos (Or.inl h0)]
    go_enter Tryz.func21, Tryz.ntmps21
    go_wp2_with fail
    go_ret2
    exact ⟨rfl, Q.refl _⟩
  · by_cases h1 : (S.length : Int) ≤ k
    · rw [if_pos (Or.inr h1)]
      go_enter Tryz.func21, Tryz.ntmps21
      go_wp2_with fail
      go_ret2
      exact ⟨rfl, Q.refl _⟩
    · obtain ⟨K, rfl⟩ : ∃ K : Nat, k = (K : Int) := ⟨k.toNat, by omega⟩
      rw [if_neg (by omega), Int.toNat_natCast]
      have hK : K < S.length := by omega
      obtain ⟨g, o, cap', hsl, hcap, hI⟩ := hv.some (by omega)
      injection hsl with hs1 hs2 hs3
      subst hs1 hs3
      clear hs2 hv
      have HI : Hid (UIs w g o S) := hI
      have HB : Hid (∀ i, S.getD i 0 < 4294967296) := hb
      have HM : Hid (∀ s ∈ S, s < 4294967296) := mem_of_getD2 hb
      have HE : Hid (S.take S.length = S) := List.take_of_length_le (Nat.le_refl _)
      have HK : Hid (∀ s : Nat, s < 4294967296 → ∀ x, Calls Tryz.prog 59 #[.int .u32 (s : Int)] x fun e w' => e = .returned (.int .i64 (keyN s : Nat)) ∧ w' = x) := fun s hs x => r4key_any s hs x
      clear hI hb h0
      go_enter Tryz.func21, Tryz.ntmps21
      go_wp2_with fail
      go_loopg [6, 7, 8, 9] (S.length) (fun gh s6 s7 s8 s9 wr => ∃ i : Nat, s6 = .int .i64 (i : Int) ∧ i ≤ S.length ∧ gh = S.length - i ∧ Hid ((∀ i', i' < i → ¬ isRk S K i') ∧ Q w wr))
      case atStart => exact ⟨0, rfl, by omega, rfl, fun i' h => absurd h (Nat.not_lt_zero _), Q.refl _⟩
      case round =>
        obtain ⟨i, rfl, hi, rfl, HR⟩ := hrel
        by_cases hlt : i < S.length
        · have hlt' : (i : Int) < (S.length : Int) := by omega
          go_wp2_with fail
          obtain ⟨y, hy⟩ : ∃ y, S.getD i 0 = y := ⟨_, rfl⟩
          have HY : Hid (S.getD i 0 = y) := hy
          have hy2 : y < 4294967296 := by rw [← hy]; exact HB.out i
          clear hy
          go_loopg [7, 8, 9] (S.length) (fun gh s7 s8 s9 wx => ∃ j : Nat, s7 = .int .i64 (lssN (S.take j) y : Nat) ∧ s8 = .int .i64 (samN (S.take j) y : Nat) ∧ s9 = .int .i64 (j : Int) ∧ j ≤ S.length ∧ gh = S.length - j ∧ Hid (Q w wx))
          case atStart => exact ⟨0, rfl, rfl, rfl, by omega, rfl, HR.out.2⟩
          case round =>
            obtain ⟨j, rfl, rfl, rfl, hj, rfl, HX⟩ := hrel
            by_cases hjl : j < S.length
            · have hjl' : (j : Int) < (S.length : Int) := by omega
              have cj := HX.out.cell (HI.out j hjl)
              have ci := HX.out.cell (HI.out i hlt)
              rw [HY.out] at ci
              have e1 := lss_snoc (x := y) hjl
              have e2 := sam_snoc (x := y) hjl
              have hl1 : lssN (S.take j) y ≤ S.length := Nat.le_trans List.countP_le_length (by rw [List.length_take]; omega)
              have hl2 : samN (S.take j) y ≤ S.length := Nat.le_trans List.countP_le_length (by rw [List.length_take]; omega)
              obtain ⟨x, hx⟩ : ∃ x, S.getD j 0 = x := ⟨_, rfl⟩
              have hx2 : x < 4294967296 := by rw [← hx]; exact HB.out j
              rw [hx] at cj e1 e2
              obtain ⟨p, hp⟩ : ∃ p, lssN (S.take j) y = p := ⟨_, rfl⟩
              obtain ⟨q, hq⟩ : ∃ q, samN (S.take j) y = q := ⟨_, rfl⟩
              rw [hp] at e1 hl1 ⊢
              rw [hq] at e2 hl2 ⊢
              have CK : Hid (∀ (z : Nat) (w : World), (z = x ∨ z = y) → Calls Tryz.prog 59 #[.int .u32 (z : Int)] w fun e w' => e = .returned (.int .i64 (keyN z : Nat)) ∧ w' = w) := fun z w hz => HK.out z (by rcases hz with rfl | rfl <;> assumption) w
              have q1 := qw_cell cj
              have q2 := qw_cell ci
              have n0 := qw_some wr
              clear hx hp hq
              by_cases h1 : keyN x < keyN y
              · have hxy : ((x : Int) == (y : Int)) = false := by rw [beq_eq_false_iff_ne]; intro e; exact absurd h1 (by rw [show x = y by omega]; omega)
                have h1' : ((keyN x : Nat) : Int) < ((keyN y : Nat) : Int) := by omega
                have HL1 : Hid (lssN (S.take (j + 1)) y = p + 1) := by show _ = _; rw [e1, if_pos h1]
                have HL2 : Hid (samN (S.take (j + 1)) y = q) := by show _ = _; rw [e2, if_neg (fun e => by subst e; omega), Nat.add_zero]
                clear e1 e2
                go_wp2_with fail
                refine wp_region_quiet_Q (by kernel_rfl) (by kernel_rfl) ?_
                repeat (first | go_big_quiet_step (first | (go_at_call 59; exact calls_qs (CK.out _ _ (by first | exact Or.inl rfl | exact Or.inr rfl)))) | quiet_step (first | (go_at_call 59; exact calls_qs (CK.out _ _ (by first | exact Or.inl rfl | exact Or.inr rfl)))))
                refine wpQuiet_nil ?_
                intro w4 hw'
                have hq4 := qw_out hw'
                have HQ4 : Hid (Q w w4) := HX.out.trans hq4
                have c1 := hq4.cell cj
                have c2 := hq4.cell ci
                clear q1 q2 n0 hw' hq4 cj ci
                have q1 := qw_cell c1
                have q2 := qw_cell c2
                have n0 := qw_some w4
                go_wp2_with fail
                refine wp_region_quiet_Q (by kernel_rfl) (by kernel_rfl) ?_
                repeat (first | go_big_quiet_step (fail) | quiet_step (fail))
                refine wpQuiet_nil ?_
                intro w5 hw'
                have HQ5 : Hid (Q w w5) := HQ4.out.trans (qw_out hw')
                clear q1 q2 n0 hw' c1 c2 HQ4
                go_wp2_with fail
                go_roundg (S.length - (j + 1))
                case measure => go_light; omega
                case rel => go_light; exact ⟨j + 1, by rw [HL1.out] <;> simp, by rw [HL2.out] <;> simp, by simp, by omega, rfl, HQ5⟩
              · have h1' : ¬ ((keyN x : Nat) : Int) < ((keyN y : Nat) : Int) := by omega
                by_cases h2 : x = y
                · have hxy : ((x : Int) == (y : Int)) = true := by rw [h2]; simp
                  have HL1 : Hid (lssN (S.take (j + 1)) y = p) := by show _ = _; rw [e1, if_neg h1, Nat.add_zero]
                  have HL2 : Hid (samN (S.take (j + 1)) y = q + 1) := by show _ = _; rw [e2, if_pos h2]
                  clear e1 e2 h2
                  go_wp2_with fail
                  refine wp_region_quiet_Q (by kernel_rfl) (by kernel_rfl) ?_
                  repeat (first | go_big_quiet_step (first | (go_at_call 59; exact calls_qs (CK.out _ _ (by first | exact Or.inl rfl | exact Or.inr rfl)))) | quiet_step (first | (go_at_call 59; exact calls_qs (CK.out _ _ (by first | exact Or.inl rfl | exact Or.inr rfl)))))
                  refine wpQuiet_nil ?_
                  intro w4 hw'
                  have hq4 := qw_out hw'
                  have HQ4 : Hid (Q w w4) := HX.out.trans hq4
                  have c1 := hq4.cell cj
                  have c2 := hq4.cell ci
                  clear q1 q2 n0 hw' hq4 cj ci
                  have q1 := qw_cell c1
                  have q2 := qw_cell c2
                  have n0 := qw_some w4
                  go_wp2_with fail
                  refine wp_region_quiet_Q (by kernel_rfl) (by kernel_rfl) ?_
                  repeat (first | go_big_quiet_step (fail) | quiet_step (fail))
                  refine wpQuiet_nil ?_
                  intro w5 hw'
                  have HQ5 : Hid (Q w w5) := HQ4.out.trans (qw_out hw')
                  clear q1 q2 n0 hw' c1 c2 HQ4
                  go_wp2_with fail
                  go_roundg (S.length - (j + 1))
                  case measure => go_light; omega
                  case rel => go_light; exact ⟨j + 1, by rw [HL1.out] <;> simp, by rw [HL2.out] <;> simp, by simp, by omega, rfl, HQ5⟩
                · have hxy : ((x : Int) == (y : Int)) = false := by rw [beq_eq_false_iff_ne]; omega
                  have HL1 : Hid (lssN (S.take (j + 1)) y = p) := by show _ = _; rw [e1, if_neg h1, Nat.add_zero]
                  have HL2 : Hid (samN (S.take (j + 1)) y = q) := by show _ = _; rw [e2, if_neg h2, Nat.add_zero]
                  clear e1 e2
                  go_wp2_with fail
                  refine wp_region_quiet_Q (by kernel_rfl) (by kernel_rfl) ?_
                  repeat (first | go_big_quiet_step (first | (go_at_call 59; exact calls_qs (CK.out _ _ (by first | exact Or.inl rfl | exact Or.inr rfl)))) | quiet_step (first | (go_at_call 59; exact calls_qs (CK.out _ _ (by first | exact Or.inl rfl | exact Or.inr rfl)))))
                  refine wpQuiet_nil ?_
                  intro w4 hw'
                  have hq4 := qw_out hw'
                  have HQ4 : Hid (Q w w4) := HX.out.trans hq4
                  have c1 := hq4.cell cj
                  have c2 := hq4.cell ci
                  clear q1 q2 n0 hw' hq4 cj ci
                  have q1 := qw_cell c1
                  have q2 := qw_cell c2
                  have n0 := qw_some w4
                  go_wp2_with fail
                  refine wp_region_quiet_Q (by kernel_rfl) (by kernel_rfl) ?_
                  repeat (first | go_big_quiet_step (fail) | quiet_step (fail))
                  refine wpQuiet_nil ?_
                  intro w5 hw'
                  have HQ5 : Hid (Q w w5) := HQ4.out.trans (qw_out hw')
                  clear q1 q2 n0 hw' c1 c2 HQ4
                  go_wp2_with fail
                  go_roundg (S.length - (j + 1))
                  case measure => go_light; omega
                  case rel => go_light; exact ⟨j + 1, by rw [HL1.out] <;> simp, by rw [HL2.out] <;> simp, by simp, by omega, rfl, HQ5⟩
            · obtain rfl : j = S.length := by omega
              have hge : ¬ (S.length : Int) < (S.length : Int) := by omega
              rw [HE.out]
              have hl1 : lssN S y ≤ S.length := List.countP_le_length
              have hl2 : samN S y ≤ S.length := List.countP_le_length
              have HD : Hid (isRk S K i ↔ lssN S y ≤ K ∧ K < lssN S y + samN S y) := by
                show isRk S K i ↔ _
                unfold isRk
                rw [HY.out]
              generalize lssN S y = p at *
              generalize samN S y = q at *
              by_cases h1 : p ≤ K
              · have h1' : (p : Int) ≤ (K : Int) := by omega
                by_cases h2 : K < p + q
                · have h2' : (K : Int) < (p : Int) + (q : Int) := by omega
                  have HV : Hid (rkV S K = y) := by
                    show _ = _
                    rw [← HY.out]
                    exact (isRk_val HM.out hlt hK (HD.out.2 ⟨h1, h2⟩)).symm
                  have ci := HX.out.cell (HI.out i hlt)
                  rw [HY.out] at ci
                  clear HD
                  go_wp2_with fail
                  go_ret2
                  rw [HV.out]
                  exact ⟨rfl, HX.out⟩
                · have h2' : ¬ (K : Int) < (p : Int) + (q : Int) := by omega
                  have HN : Hid ((∀ i', i' < i + 1 → ¬ isRk S K i') ∧ Q w wr) := by
                    refine ⟨fun i' hi' => ?_, HX.out⟩
                    rcases Nat.lt_or_ge i' i with c | c
                    · exact HR.out.1 i' c
                    · obtain rfl : i' = i := by omega
                      exact fun hh => h2 (HD.out.1 hh).2
                  clear HD HR HX
                  go_wp2_with fail
                  go_roundg (S.length - (i + 1))
                  case measure => go_light; omega
                  case rel => go_light; exact ⟨i + 1, by simp, by omega, rfl, HN⟩
              · have h1' : ¬ (p : Int) ≤ (K : Int) := by omega
                have HN : Hid ((∀ i', i' < i + 1 → ¬ isRk S K i') ∧ Q w wr) := by
                  refine ⟨fun i' hi' => ?_, HX.out⟩
                  rcases Nat.lt_or_ge i' i with c | c
                  · exact HR.out.1 i' c
                  · obtain rfl : i' = i := by omega
                    exact fun hh => h1 (HD.out.1 hh).1
                clear HD HR HX
                go_wp2_with fail
                go_roundg (S.length - (i + 1))
                case measure => go_light; omega
                case rel => go_light; exact ⟨i + 1, by simp, by omega, rfl, HN⟩
        · exfalso
          obtain ⟨i', h1, h2⟩ := isRk_some HM.out hK
          exact HR.out.1 i' (by omega) h2
set_option maxHeartbeats 4000000 in
set_option maxRecDepth 100000 in
theorem s16share_any (v : Value) (S : List Nat) (num den : Int) (w : World) (hv : USl w v S) (hb : ∀ i, S.getD i 0 < 4294967296) (hn : S.length ≤ 1000000) (h1 : 1 ≤ S.length) :
    Calls Tryz.prog 22 #[v, .int .i64 num, .int .i64 den] w fun e w' => e = .returned (.tuple #[.int .u32 ((sshV 0 S num den).1 : Nat), .int .i64 (sshV 0 S num den).2]) ∧ Q w w' := by
  obtain ⟨ad, cap, rfl⟩ := hv.form
  have KR : Hid (∀ k, Calls Tryz.prog 21 #[.slice ad S.length cap, .int .i64 k] w fun e w' => e = .returned (.tuple #[.int .u32 ((srkV 0 S k).1 : Nat), .int .i64 (srkV 0 S k).2]) ∧ Q w w') := fun k => s16rank_any _ S k w hv hb hn
  unfold sshV
  rw [if_neg (fun h => h rfl)]
  clear hv hb
  generalize S.length = n at *
  by_cases h0 : den < 1
  · rw [if_pos (Or.inl h0)]
    go_enter Tryz.func22, Tryz.ntmps22
    go_wp2_with fail
    go_ret2
    exact ⟨rfl, Q.refl _⟩
  · by_cases g1 : 1048576 < den
    · rw [if_pos (Or.inr (Or.inl g1))]
      go_enter Tryz.func22, Tryz.ntmps22
      go_wp2_with fail
      go_ret2
      exact ⟨rfl, Q.refl _⟩
    · by_cases h2 : num < 0
      · rw [if_pos (Or.inr (Or.inr (Or.inl h2)))]
        go_enter Tryz.func22, Tryz.ntmps22
        go_wp2_with fail
        go_ret2
        exact ⟨rfl, Q.refl _⟩
      · by_cases h3 : den < num
        · rw [if_pos (Or.inr (Or.inr (Or.inr h3)))]
          go_enter Tryz.func22, Tryz.ntmps22
          go_wp2_with fail
          go_ret2
          exact ⟨rfl, Q.refl _⟩
        · rw [if_neg (by omega)]
          obtain ⟨m, hm⟩ : ∃ m, ((n : Int) - 1) * num = m := ⟨_, rfl⟩
          have hmb : 0 ≤ m ∧ m ≤ 1000000 * 1048576 := by
            rw [← hm]
            refine ⟨Int.mul_nonneg (by omega) (by omega), ?_⟩
            exact Int.le_trans (Int.mul_le_mul_of_nonneg_right (by omega) (by omega)) (Int.mul_le_mul_of_nonneg_left (by omega) (by omega))
          obtain ⟨k, hk⟩ : ∃ k, m / den = k := ⟨_, rfl⟩
          have hkb : 0 ≤ k ∧ k ≤ m := by
            rw [← hk]
            exact ⟨Int.ediv_nonneg hmb.1 (by omega), Int.ediv_le_self _ hmb.1⟩
          have et : Int.tdiv m den = k := by rw [Int.tdiv_eq_ediv_of_nonneg hmb.1]; exact hk
          rw [hm, hk]
          have HR : Hid _ := KR.out k
          generalize (srkV 0 S k).1 = v0 at *
          generalize (srkV 0 S k).2 = v1 at *
          have em : wrap64 (((n : Int) - 1) * num) = m := by rw [hm]; unfold wrap64; omega
          have hd0 : (den == 0) = false := by simp; omega
          clear KR hk
          go_enter Tryz.func22, Tryz.ntmps22
          go_wp2_with fail
          refine Calls.mono HR.out ?_
          rintro e w1 ⟨rfl, q1⟩
          go_wp2_with fail
          go_ret2
          exact ⟨rfl, q1⟩
end Go.Proofs.YtieojgblamkgoaaGreatDoor
/- Copies of planes. -/
namespace Go.Proofs.YtieojgblamkgoaaGreatDoor
open Go.RowKit
set_option linter.unusedVariables false
set_option linter.unusedSimpArgs false

theorem uInfoq : ∃ i, Tryz.prog.info? 43 = some i ∧ i.size = 1 ∧ i.bytes = 4 ∧ i.zero = some (.int .u32 0) := info_of (by kernel_rfl) (by kernel_rfl)
theorem run_appopq {P : Program} {A : Act} {o : Oper} {x x' : World} {s u : Operand} {t : TypeId} (ho : o.op = .call { callee := .builtin .append, args := #[s, u], argTypes := #[t, t] }) {v v' r : Value} (hs : A.eval s = v) (hu : A.eval u = v') (hr : (Builtin.append_ #[t, t] o.type #[v, v']).run P x = .ok r x') : (execOp A.eval o).run P x = .ok (.value r) x' := by
  unfold execOp
  simp only [ho, resolve, invoke, builtin, Sem.run_bind, Sem.run_pure, Result.andThen_ok, List.map_toArray, List.map_cons, List.map_nil, hs, hu, hr]
set_option maxHeartbeats 2000000 in
set_option maxRecDepth 100000 in
theorem hcopy_some (w : World) (pw ph : Int) (g o n c : Nat) (S : List Nat) (hS : S.length = n) (hI : UIs w g o S) (h1 : 1 ≤ n) (h2 : n ≤ 1000000) :
    Calls Tryz.prog 16 #[.agg #[.int .i64 pw, .int .i64 ph, .slice (some ⟨g, o, none⟩) n c]] w fun e w' => ∃ v, e = .returned v ∧ ∃ b cap, v = .agg #[.int .i64 pw, .int .i64 ph, .slice (some ⟨b, 0, none⟩) n cap] ∧ n ≤ cap ∧ b < w'.heap.size ∧ Own w w' b S := by
  have HI : Hid (∀ x : World, Q w x → UIs x g o S) := fun x q => hI.next q
  have HN : Hid (S.length = n) := hS
  clear hI hS
  go_enter Tryz.func16, Tryz.ntmps16
  go_wp2_with fail
  have HQ : Hid (Q w ((w.alloc (Obj.cells #[Value.int IntKind.i64 pw, Value.int IntKind.i64 ph, .slice (some ⟨g, o, none⟩) n c] 26)).alloc (Obj.cells #[Value.int IntKind.i64 0, Value.int IntKind.i64 0, Value.slice none 0 0] 26))) := ((Q.refl w).cells _ _).cells _ _
  have c0 : ((w.alloc (Obj.cells #[Value.int IntKind.i64 pw, Value.int IntKind.i64 ph, .slice (some ⟨g, o, none⟩) n c] 26)).alloc (Obj.cells #[Value.int IntKind.i64 0, Value.int IntKind.i64 0, Value.slice none 0 0] 26)).cell? ⟨w.heap.size, 0, none⟩ = some (.int .i64 pw) := by simp [go_sem]
  have c1 : ((w.alloc (Obj.cells #[Value.int IntKind.i64 pw, Value.int IntKind.i64 ph, .slice (some ⟨g, o, none⟩) n c] 26)).alloc (Obj.cells #[Value.int IntKind.i64 0, Value.int IntKind.i64 0, Value.slice none 0 0] 26)).cell? ⟨w.heap.size, 1, none⟩ = some (.int .i64 ph) := by simp [go_sem]
  have c2 : ((w.alloc (Obj.cells #[Value.int IntKind.i64 pw, Value.int IntKind.i64 ph, .slice (some ⟨g, o, none⟩) n c] 26)).alloc (Obj.cells #[Value.int IntKind.i64 0, Value.int IntKind.i64 0, Value.slice none 0 0] 26)).cell? ⟨w.heap.size, 2, none⟩ = some (.slice (some ⟨g, o, none⟩) n c) := by simp [go_sem]
  have d0 : ((w.alloc (Obj.cells #[Value.int IntKind.i64 pw, Value.int IntKind.i64 ph, .slice (some ⟨g, o, none⟩) n c] 26)).alloc (Obj.cells #[Value.int IntKind.i64 0, Value.int IntKind.i64 0, Value.slice none 0 0] 26)).cell? ⟨w.heap.size + 1, 0, none⟩ = some (.int .i64 0) := by simp [go_sem]
  have d1 : ((w.alloc (Obj.cells #[Value.int IntKind.i64 pw, Value.int IntKind.i64 ph, .slice (some ⟨g, o, none⟩) n c] 26)).alloc (Obj.cells #[Value.int IntKind.i64 0, Value.int IntKind.i64 0, Value.slice none 0 0] 26)).cell? ⟨w.heap.size + 1, 1, none⟩ = some (.int .i64 0) := by simp [go_sem]
  have d2 : ((w.alloc (Obj.cells #[Value.int IntKind.i64 pw, Value.int IntKind.i64 ph, .slice (some ⟨g, o, none⟩) n c] 26)).alloc (Obj.cells #[Value.int IntKind.i64 0, Value.int IntKind.i64 0, Value.slice none 0 0] 26)).cell? ⟨w.heap.size + 1, 2, none⟩ = some (.slice none 0 0) := by simp [go_sem]
  have fz : ∀ j, ((w.alloc (Obj.cells #[Value.int IntKind.i64 pw, Value.int IntKind.i64 ph, .slice (some ⟨g, o, none⟩) n c] 26)).alloc (Obj.cells #[Value.int IntKind.i64 0, Value.int IntKind.i64 0, Value.slice none 0 0] 26)).frozen? ⟨w.heap.size + 1, j, none⟩ = false := fun j => by simp [go_sem]
  have hsz : ((w.alloc (Obj.cells #[Value.int IntKind.i64 pw, Value.int IntKind.i64 ph, .slice (some ⟨g, o, none⟩) n c] 26)).alloc (Obj.cells #[Value.int IntKind.i64 0, Value.int IntKind.i64 0, Value.slice none 0 0] 26)).heap.size = w.heap.size + 2 := by simp
  generalize ((w.alloc (Obj.cells #[Value.int IntKind.i64 pw, Value.int IntKind.i64 ph, .slice (some ⟨g, o, none⟩) n c] 26)).alloc (Obj.cells #[Value.int IntKind.i64 0, Value.int IntKind.i64 0, Value.slice none 0 0] 26)) = wz at *
  have n0 := qw_some wz
  have f0 := qw_cell c0
  have f1 := qw_cell c1
  have f2 := qw_cell c2
  refine wp_region_mk [0, 1, 2, 3, 4, 5] [[6, 7, 8]] 3 _ (by kernel_rfl) (by kernel_rfl) rfl (by kernel_rfl) ?_
  simp only [List.filterMap_cons, List.filterMap_nil, List.getElem?_cons_zero, List.getElem?_cons_succ]
  repeat (first | go_big_quiet_step (fail) | quiet_step (fail))
  refine wpQuiet_nil ?_
  intro x hx
  obtain ⟨iu, i1, i2, i3, i4⟩ := uInfoq
  obtain ⟨cap, w7, hr7, hq7, hc1, hc2, hz7, hn7, -, hf7⟩ := run_app_room (P := Tryz.prog) x 24 24 43 iu _ Tryz.underlying24 i1 i4 (by rw [i2]; rfl) (.slice none 0 0) (Or.inl rfl) ⟨g, o, none⟩ n c (S.map fun (s : Nat) => Value.int .u32 (s : Int)) (by rw [List.length_map, HN.out, i2]; omega) (fun j u hu => by
    rw [List.getElem?_map] at hu
    cases hj : S[j]? with
    | none => rw [hj] at hu; cases hu
    | some s =>
      rw [hj] at hu
      have hu := Option.some.inj hu
      have hjl : j < S.length := (List.getElem?_eq_some_iff.1 hj).1
      have := HI.out x (HQ.out.trans hx) j hjl
      rw [List.getD_eq_getElem?_getD, hj] at this
      rw [← hu, show (⟨g, o, none⟩ : Addr).add j = ⟨g, o + j, none⟩ by unfold Addr.add; split <;> simp_all]
      exact this) (by omega) (by omega) (by rw [i3]; omega)
  have hc7 : ∀ i, i < S.length → w7.cell? ⟨x.heap.size, i, none⟩ = some (.int .u32 ((S.getD i 0 : Nat) : Int)) := fun i hi => by
    refine hn7 i _ ?_
    rw [List.getElem?_map, List.getElem?_eq_getElem hi, List.getD_eq_getElem?_getD, List.getElem?_eq_getElem hi]
    rfl
  have hq2 : Q wz w7 := hx.trans hq7
  refine tree_run 6 rfl rfl (v := .slice (some ⟨x.heap.size, 0, none⟩) n cap) (x' := w7) (run_appopq rfl (v := .slice none 0 0) (v' := .slice (some ⟨g, o, none⟩) n c) (by simp [Act.eval, Act.put]) (by simp [Act.eval, Act.put]) hr7) hq2 ?_
  refine tree_run 7 rfl rfl (v := .agg #[.int .i64 pw, .int .i64 ph, .slice (some ⟨x.heap.size, 0, none⟩) n cap]) (x' := w7) (by simp [execOp, go_sem]) hq2 ?_
  have d02 := hq2.cell d0
  have d12 := hq2.cell d1
  have d22 := hq2.cell d2
  have fz2 : ∀ j, w7.frozen? ⟨w.heap.size + 1, j, none⟩ = false := fun j => (hq2.2 _).trans (fz j)
  refine tree_skipF 8 rfl rfl rfl (x' := (((w7.setCell ⟨w.heap.size + 1, 0, none⟩ (.int .i64 pw)).setCell ⟨w.heap.size + 1, 1, none⟩ (.int .i64 ph)).setCell ⟨w.heap.size + 1, 2, none⟩ (.slice (some ⟨x.heap.size, 0, none⟩) n cap))) (by simp [execOp, go_sem, d02, d12, d22, fz2]) ?_
  refine tree_nil ?_
  have HO : Hid (Own w (((w7.setCell ⟨w.heap.size + 1, 0, none⟩ (.int .i64 pw)).setCell ⟨w.heap.size + 1, 1, none⟩ (.int .i64 ph)).setCell ⟨w.heap.size + 1, 2, none⟩ (.slice (some ⟨x.heap.size, 0, none⟩) n cap)) x.heap.size S) := by
    have hlt : w.heap.size + 1 < x.heap.size := by have := hx.1.size; omega
    have hne : ∀ j, (⟨x.heap.size, j, none⟩ : Addr) ≠ ⟨w.heap.size + 1, 0, none⟩ := fun j e => by injection e with e; omega
    refine ⟨(((HQ.out.trans hq2).set (Nat.le_succ _) _).set (Nat.le_succ _) _).set (Nat.le_succ _) _, by omega, fun i hi => ?_, fun j => ?_⟩
    · rw [World.cell?_setCell_other _ _ _ _ (fun e => by injection e with e; omega), World.cell?_setCell_other _ _ _ _ (fun e => by injection e with e; omega), World.cell?_setCell_other _ _ _ _ (fun e => by injection e with e; omega), Nat.zero_add]
      exact hc7 i hi
    · rw [World.frozen?_setCell, World.frozen?_setCell, World.frozen?_setCell]
      exact hf7 j
  have k0 : (((w7.setCell ⟨w.heap.size + 1, 0, none⟩ (.int .i64 pw)).setCell ⟨w.heap.size + 1, 1, none⟩ (.int .i64 ph)).setCell ⟨w.heap.size + 1, 2, none⟩ (.slice (some ⟨x.heap.size, 0, none⟩) n cap)).cell? ⟨w.heap.size + 1, 0, none⟩ = some (.int .i64 pw) := by simp [go_sem, d02, d12, d22]
  have k1 : (((w7.setCell ⟨w.heap.size + 1, 0, none⟩ (.int .i64 pw)).setCell ⟨w.heap.size + 1, 1, none⟩ (.int .i64 ph)).setCell ⟨w.heap.size + 1, 2, none⟩ (.slice (some ⟨x.heap.size, 0, none⟩) n cap)).cell? ⟨w.heap.size + 1, 1, none⟩ = some (.int .i64 ph) := by simp [go_sem, d02, d12, d22]
  have k2 : (((w7.setCell ⟨w.heap.size + 1, 0, none⟩ (.int .i64 pw)).setCell ⟨w.heap.size + 1, 1, none⟩ (.int .i64 ph)).setCell ⟨w.heap.size + 1, 2, none⟩ (.slice (some ⟨x.heap.size, 0, none⟩) n cap)).cell? ⟨w.heap.size + 1, 2, none⟩ = some (.slice (some ⟨x.heap.size, 0, none⟩) n cap) := by simp [go_sem, d02, d12, d22]
  generalize (((w7.setCell ⟨w.heap.size + 1, 0, none⟩ (.int .i64 pw)).setCell ⟨w.heap.size + 1, 1, none⟩ (.int .i64 ph)).setCell ⟨w.heap.size + 1, 2, none⟩ (.slice (some ⟨x.heap.size, 0, none⟩) n cap)) = w5 at *
  clear d02 d12 d22 fz2 hq2 hx c0 c1 c2 d0 d1 d2 fz hr7 hq7
  go_wp2_with fail
  have hb5 : x.heap.size < w5.heap.size := World.block_lt_of_cell? _ _ (HO.out.cells 0 (by rw [HN.out]; omega))
  exact bodyPost_ret (v := .agg #[.int .i64 pw, .int .i64 ph, .slice (some ⟨x.heap.size, 0, none⟩) n cap]) (by simp [results, Tryz.results16, go_sem, k0, k1, k2]) rfl ⟨_, rfl, x.heap.size, cap, rfl, hc1, hb5, HO.out⟩
theorem run_app_none (x : World) (ad : Option Addr) (c : Nat) : ∃ w7, (Builtin.append_ #[24, 24] 24 #[.slice none 0 0, .slice ad 0 c]).run Tryz.prog x = .ok (.slice none 0 0) w7 ∧ Q x w7 := by
  refine ⟨x, ?_, Q.refl x⟩
  cases ad <;> simp [Builtin.append_, go_sem]
set_option maxHeartbeats 2000000 in
set_option maxRecDepth 100000 in
theorem hcopy_none (w : World) (pw ph : Int) (ad : Option Addr) (c : Nat) :
    Calls Tryz.prog 16 #[.agg #[.int .i64 pw, .int .i64 ph, .slice ad 0 c]] w fun e w' => ∃ v, e = .returned v ∧ v = .agg #[.int .i64 pw, .int .i64 ph, .slice none 0 0] ∧ Q w w' := by
  go_enter Tryz.func16, Tryz.ntmps16
  go_wp2_with fail
  have HQ : Hid (Q w ((w.alloc (Obj.cells #[Value.int IntKind.i64 pw, Value.int IntKind.i64 ph, .slice ad 0 c] 26)).alloc (Obj.cells #[Value.int IntKind.i64 0, Value.int IntKind.i64 0, Value.slice none 0 0] 26))) := ((Q.refl w).cells _ _).cells _ _
  have c0 : ((w.alloc (Obj.cells #[Value.int IntKind.i64 pw, Value.int IntKind.i64 ph, .slice ad 0 c] 26)).alloc (Obj.cells #[Value.int IntKind.i64 0, Value.int IntKind.i64 0, Value.slice none 0 0] 26)).cell? ⟨w.heap.size, 0, none⟩ = some (.int .i64 pw) := by simp [go_sem]
  have c1 : ((w.alloc (Obj.cells #[Value.int IntKind.i64 pw, Value.int IntKind.i64 ph, .slice ad 0 c] 26)).alloc (Obj.cells #[Value.int IntKind.i64 0, Value.int IntKind.i64 0, Value.slice none 0 0] 26)).cell? ⟨w.heap.size, 1, none⟩ = some (.int .i64 ph) := by simp [go_sem]
  have c2 : ((w.alloc (Obj.cells #[Value.int IntKind.i64 pw, Value.int IntKind.i64 ph, .slice ad 0 c] 26)).alloc (Obj.cells #[Value.int IntKind.i64 0, Value.int IntKind.i64 0, Value.slice none 0 0] 26)).cell? ⟨w.heap.size, 2, none⟩ = some (.slice ad 0 c) := by simp [go_sem]
  have d0 : ((w.alloc (Obj.cells #[Value.int IntKind.i64 pw, Value.int IntKind.i64 ph, .slice ad 0 c] 26)).alloc (Obj.cells #[Value.int IntKind.i64 0, Value.int IntKind.i64 0, Value.slice none 0 0] 26)).cell? ⟨w.heap.size + 1, 0, none⟩ = some (.int .i64 0) := by simp [go_sem]
  have d1 : ((w.alloc (Obj.cells #[Value.int IntKind.i64 pw, Value.int IntKind.i64 ph, .slice ad 0 c] 26)).alloc (Obj.cells #[Value.int IntKind.i64 0, Value.int IntKind.i64 0, Value.slice none 0 0] 26)).cell? ⟨w.heap.size + 1, 1, none⟩ = some (.int .i64 0) := by simp [go_sem]
  have d2 : ((w.alloc (Obj.cells #[Value.int IntKind.i64 pw, Value.int IntKind.i64 ph, .slice ad 0 c] 26)).alloc (Obj.cells #[Value.int IntKind.i64 0, Value.int IntKind.i64 0, Value.slice none 0 0] 26)).cell? ⟨w.heap.size + 1, 2, none⟩ = some (.slice none 0 0) := by simp [go_sem]
  have fz : ∀ j, ((w.alloc (Obj.cells #[Value.int IntKind.i64 pw, Value.int IntKind.i64 ph, .slice ad 0 c] 26)).alloc (Obj.cells #[Value.int IntKind.i64 0, Value.int IntKind.i64 0, Value.slice none 0 0] 26)).frozen? ⟨w.heap.size + 1, j, none⟩ = false := fun j => by simp [go_sem]
  have hsz : ((w.alloc (Obj.cells #[Value.int IntKind.i64 pw, Value.int IntKind.i64 ph, .slice ad 0 c] 26)).alloc (Obj.cells #[Value.int IntKind.i64 0, Value.int IntKind.i64 0, Value.slice none 0 0] 26)).heap.size = w.heap.size + 2 := by simp
  generalize ((w.alloc (Obj.cells #[Value.int IntKind.i64 pw, Value.int IntKind.i64 ph, .slice ad 0 c] 26)).alloc (Obj.cells #[Value.int IntKind.i64 0, Value.int IntKind.i64 0, Value.slice none 0 0] 26)) = wz at *
  have n0 := qw_some wz
  have f0 := qw_cell c0
  have f1 := qw_cell c1
  have f2 := qw_cell c2
  refine wp_region_mk [0, 1, 2, 3, 4, 5] [[6, 7, 8]] 3 _ (by kernel_rfl) (by kernel_rfl) rfl (by kernel_rfl) ?_
  simp only [List.filterMap_cons, List.filterMap_nil, List.getElem?_cons_zero, List.getElem?_cons_succ]
  repeat (first | go_big_quiet_step (fail) | quiet_step (fail))
  refine wpQuiet_nil ?_
  intro x hx
  obtain ⟨iu, i1, i2, i3, i4⟩ := uInfoq
  obtain ⟨w7, hr7, hq7⟩ : ∃ w7, (Builtin.append_ #[24, 24] 24 #[.slice none 0 0, .slice ad 0 c]).run Tryz.prog x = .ok (.slice none 0 0) w7 ∧ Q x w7 := run_app_none x ad c
  have hq2 : Q wz w7 := hx.trans hq7
  refine tree_run 6 rfl rfl (v := .slice none 0 0) (x' := w7) (run_appopq rfl (v := .slice none 0 0) (v' := .slice ad 0 c) (by simp [Act.eval, Act.put]) (by simp [Act.eval, Act.put]) hr7) hq2 ?_
  refine tree_run 7 rfl rfl (v := .agg #[.int .i64 pw, .int .i64 ph, .slice none 0 0]) (x' := w7) (by simp [execOp, go_sem]) hq2 ?_
  have d02 := hq2.cell d0
  have d12 := hq2.cell d1
  have d22 := hq2.cell d2
  have fz2 : ∀ j, w7.frozen? ⟨w.heap.size + 1, j, none⟩ = false := fun j => (hq2.2 _).trans (fz j)
  refine tree_skipF 8 rfl rfl rfl (x' := (((w7.setCell ⟨w.heap.size + 1, 0, none⟩ (.int .i64 pw)).setCell ⟨w.heap.size + 1, 1, none⟩ (.int .i64 ph)).setCell ⟨w.heap.size + 1, 2, none⟩ (.slice none 0 0))) (by simp [execOp, go_sem, d02, d12, d22, fz2]) ?_
  refine tree_nil ?_
  have HO : Hid (Q w (((w7.setCell ⟨w.heap.size + 1, 0, none⟩ (.int .i64 pw)).setCell ⟨w.heap.size + 1, 1, none⟩ (.int .i64 ph)).setCell ⟨w.heap.size + 1, 2, none⟩ (.slice none 0 0))) := by
    exact (((HQ.out.trans hq2).set (Nat.le_succ _) _).set (Nat.le_succ _) _).set (Nat.le_succ _) _
  have k0 : (((w7.setCell ⟨w.heap.size + 1, 0, none⟩ (.int .i64 pw)).setCell ⟨w.heap.size + 1, 1, none⟩ (.int .i64 ph)).setCell ⟨w.heap.size + 1, 2, none⟩ (.slice none 0 0)).cell? ⟨w.heap.size + 1, 0, none⟩ = some (.int .i64 pw) := by simp [go_sem, d02, d12, d22]
  have k1 : (((w7.setCell ⟨w.heap.size + 1, 0, none⟩ (.int .i64 pw)).setCell ⟨w.heap.size + 1, 1, none⟩ (.int .i64 ph)).setCell ⟨w.heap.size + 1, 2, none⟩ (.slice none 0 0)).cell? ⟨w.heap.size + 1, 1, none⟩ = some (.int .i64 ph) := by simp [go_sem, d02, d12, d22]
  have k2 : (((w7.setCell ⟨w.heap.size + 1, 0, none⟩ (.int .i64 pw)).setCell ⟨w.heap.size + 1, 1, none⟩ (.int .i64 ph)).setCell ⟨w.heap.size + 1, 2, none⟩ (.slice none 0 0)).cell? ⟨w.heap.size + 1, 2, none⟩ = some (.slice none 0 0) := by simp [go_sem, d02, d12, d22]
  generalize (((w7.setCell ⟨w.heap.size + 1, 0, none⟩ (.int .i64 pw)).setCell ⟨w.heap.size + 1, 1, none⟩ (.int .i64 ph)).setCell ⟨w.heap.size + 1, 2, none⟩ (.slice none 0 0)) = w5 at *
  clear d02 d12 d22 fz2 hq2 hx c0 c1 c2 d0 d1 d2 fz hr7 hq7
  go_wp2_with fail
  exact bodyPost_ret (v := .agg #[.int .i64 pw, .int .i64 ph, .slice none 0 0]) (by simp [results, Tryz.results16, go_sem, k0, k1, k2]) rfl ⟨_, rfl, rfl, HO.out⟩
end Go.Proofs.YtieojgblamkgoaaGreatDoor
/- Lists of samples that are the same. -/
namespace Go.Proofs.YtieojgblamkgoaaGreatDoor
open Go.RowKit
set_option linter.unusedVariables false
set_option linter.unusedSimpArgs false

set_option maxHeartbeats 4000000 in
set_option maxRecDepth 100000 in
theorem words_eq (v v' : Value) (xs : List Nat) (w : World) (h : USl w v xs) (h' : USl w v' xs) (hn : xs.length ≤ 9223372036854775807) :
    Calls Tryz.prog 26 #[v, v'] w fun e w' => e = .returned (.bool true) ∧ Q w w' := by
  obtain ⟨a, cap, ev⟩ := h.form
  obtain ⟨a', cap', ev'⟩ := h'.form
  subst ev ev'
  have HS : Hid (USl w (.slice a xs.length cap) xs) := h
  have HT : Hid (USl w (.slice a' xs.length cap') xs) := h'
  obtain ⟨n, en⟩ : ∃ n, xs.length = n := ⟨_, rfl⟩
  have HN : Hid (xs.length = n) := en
  rw [en] at HS HT hn ⊢
  have hnn : ((n : Int) == (n : Int)) = true := by simp
  clear h h' en
  go_enter Tryz.func26, Tryz.ntmps26
  go_wp2_with fail
  go_loopg [5] n (fun m s5 wx => ∃ i : Nat, s5 = .int .i64 i ∧ i + m = n ∧ Hid (Q w wx))
  case atStart => exact ⟨0, rfl, by omega, Q.refl w⟩
  case round =>
    obtain ⟨i, rfl, him, HQ⟩ := hrel
    by_cases hi : i < n
    · have hi0 : (0 : Int) ≤ (i : Int) := by omega
      have hi1 : (i : Int) < (n : Int) := by omega
      obtain ⟨g, o, c, e1, e2, e3⟩ := HS.out.some (by rw [HN.out]; omega)
      obtain ⟨g', o', c', f1, f2, f3⟩ := HT.out.some (by rw [HN.out]; omega)
      injection e1 with e1 hh1 hh2
      clear hh1 hh2
      injection f1 with f1 hh1 hh2
      clear hh1 hh2
      subst e1 f1
      have c1 := HQ.out.cell (e3 i (by rw [HN.out]; exact hi))
      have c2 := HQ.out.cell (f3 i (by rw [HN.out]; exact hi))
      obtain ⟨z, hz⟩ : ∃ z, xs.getD i 0 = z := ⟨_, rfl⟩
      rw [hz] at c1 c2
      have hzz : ((z : Int) == (z : Int)) = true := by simp
      have n0 := qw_some wr
      have d1 := qw_cell c1
      have d2 := qw_cell c2
      clear hz e2 e3 f2 f3
      go_wp2_with fail
      refine wp_region_quiet_Q (by kernel_rfl) (by kernel_rfl) ?_
      repeat (first | go_big_quiet_step (fail) | quiet_step (fail))
      refine wpQuiet_nil ?_
      intro w4 hw'
      have hq4 := qw_out hw'
      have HQ4 : Hid (Q w w4) := HQ.out.trans hq4
      clear hw' n0 d1 d2
      go_wp2_with fail
      go_roundg (n - (i + 1))
      case measure => go_light; omega
      case rel => go_light; exact ⟨i + 1, by go_num, by omega, HQ4⟩
    · have hie : i = n := by omega
      go_wp2_with fail
      go_ret
      exact ⟨rfl, HQ.out⟩
end Go.Proofs.YtieojgblamkgoaaGreatDoor
/- Planes that are the same. -/
namespace Go.Proofs.YtieojgblamkgoaaGreatDoor
open Go.RowKit
set_option linter.unusedVariables false
set_option linter.unusedSimpArgs false

set_option maxHeartbeats 2000000 in
set_option maxRecDepth 100000 in
theorem hplanes_yes (a b : Int) (p q : Option Addr) (n c d : Nat) (S : List Nat) (w : World) (h : USl w (.slice p n c) S) (h' : USl w (.slice q n d) S) (hn : S.length ≤ 9223372036854775807) :
    Calls Tryz.prog 19 #[.agg #[.int .i64 a, .int .i64 b, .slice p n c], .agg #[.int .i64 a, .int .i64 b, .slice q n d]] w fun e w' => e = .returned (.bool true) ∧ Q w w' := by
  have H1 : Hid (USl w (.slice p n c) S) := h
  have H2 : Hid (USl w (.slice q n d) S) := h'
  clear h h'
  have qa : Hid (∀ a b c d, Q w ((w.alloc (.cells a b)).alloc (.cells c d))) := fun a b c d => ((Q.refl w).cells _ _).cells _ _
  go_enter Tryz.func19, Tryz.ntmps19
  go_wp2_with fail
  refine (words_eq _ _ S _ (H1.out.next (qa.out _ _ _ _)) (H2.out.next (qa.out _ _ _ _)) hn).mono ?_
  rintro e w1 ⟨rfl, q1⟩
  go_wp2_with fail
  go_ret
  exact ⟨rfl, (qa.out _ _ _ _).trans q1⟩
end Go.Proofs.YtieojgblamkgoaaGreatDoor
/- The statements' helpers: sizes, planes that may be. (Out of BlL.) -/
namespace Go.Proofs.YtieojgblamkgoaaGreatDoor
open Go.RowKit
set_option linter.unusedVariables false
set_option linter.unusedSimpArgs false

set_option maxHeartbeats 2000000 in
set_option maxRecDepth 100000 in
theorem hsize_b (W H : Int) (w : World) : Calls Tryz.prog 58 #[.int .i64 W, .int .i64 H] w fun e w' => e = .returned (.bool (sizeB W H)) ∧ w' = w := by
  have E : Hid (sizeB W H = true ↔ SizeB W H) := sizeB_true
  have EF : Hid (¬ SizeB W H → sizeB W H = false) := fun h => by
    cases g : sizeB W H
    · rfl
    · exact absurd (sizeB_true.1 g) h
  generalize sizeB W H = b at *
  rcases Int.lt_or_le W 1 with h0 | h0
  · obtain rfl : b = false := EF.out (fun c => by unfold SizeB at c; omega)
    clear E EF
    go_enter Tryz.func58, Tryz.ntmps58
    go_wp2_with fail
    exact bodyPost_ret (v := .bool false) (by simp [results, Tryz.results58, go_sem] <;> omega) rfl ⟨rfl, rfl⟩
  rcases Int.lt_or_le H 1 with h1 | h1
  · obtain rfl : b = false := EF.out (fun c => by unfold SizeB at c; omega)
    clear E EF
    go_enter Tryz.func58, Tryz.ntmps58
    go_wp2_with fail
    exact bodyPost_ret (v := .bool false) (by simp [results, Tryz.results58, go_sem] <;> omega) rfl ⟨rfl, rfl⟩
  rcases Int.lt_or_le 1024 W with h2 | h2
  · obtain rfl : b = false := EF.out (fun c => by unfold SizeB at c; omega)
    clear E EF
    go_enter Tryz.func58, Tryz.ntmps58
    go_wp2_with fail
    exact bodyPost_ret (v := .bool false) (by simp [results, Tryz.results58, go_sem] <;> omega) rfl ⟨rfl, rfl⟩
  rcases Int.lt_or_le 1024 H with h3 | h3
  · obtain rfl : b = false := EF.out (fun c => by unfold SizeB at c; omega)
    clear E EF
    go_enter Tryz.func58, Tryz.ntmps58
    go_wp2_with fail
    exact bodyPost_ret (v := .bool false) (by simp [results, Tryz.results58, go_sem] <;> omega) rfl ⟨rfl, rfl⟩
  have hb1 : 0 ≤ W * H := Int.mul_nonneg (by omega) (by omega)
  have hb2 : W * H ≤ 1048576 := Int.le_trans (Int.mul_le_mul h2 h3 (by omega) (by omega)) (by decide)
  rcases Int.lt_or_le 65536 (W * H) with h4 | h4
  · obtain rfl : b = false := EF.out (fun c => by unfold SizeB at c; omega)
    clear E EF
    go_enter Tryz.func58, Tryz.ntmps58
    go_wp2_with fail
    exact bodyPost_ret (v := .bool false) (by simp [results, Tryz.results58, go_sem] <;> omega) rfl ⟨rfl, rfl⟩
  · obtain rfl : b = true := E.out.2 (by unfold SizeB; omega)
    clear E EF
    go_enter Tryz.func58, Tryz.ntmps58
    go_wp2_with fail
    exact bodyPost_ret (v := .bool true) (by simp [results, Tryz.results58, go_sem] <;> omega) rfl ⟨rfl, rfl⟩
set_option maxHeartbeats 2000000 in
set_option maxRecDepth 100000 in
theorem may_any (W H : Int) (ad : Option Addr) (n c : Nat) (w : World) : Calls Tryz.prog 20 #[.agg #[.int .i64 W, .int .i64 H, .slice ad n c]] w fun e w' => e = .returned (.int .i64 (chk W H n)) ∧ Q w w' := by
  obtain ⟨w1, hw1⟩ : ∃ w1, w.alloc (.cells #[.int .i64 W, .int .i64 H, .slice ad n c] 26) = w1 := ⟨_, rfl⟩
  have HQ : Hid (Q w w1) := by show Q w w1; rw [← hw1]; exact (Q.refl w).cells _ _
  have k0 : w1.cell? ⟨w.heap.size, 0, none⟩ = some (.int .i64 W) := by rw [← hw1]; simp [go_sem]
  have k1 : w1.cell? ⟨w.heap.size, 1, none⟩ = some (.int .i64 H) := by rw [← hw1]; simp [go_sem]
  have k2 : w1.cell? ⟨w.heap.size, 2, none⟩ = some (.slice ad n c) := by rw [← hw1]; simp [go_sem]
  have C := hsize_b W H w1
  cases hs : sizeB W H
  · rw [hs] at C
    rw [chk_bad hs]
    go_enter Tryz.func20, Tryz.ntmps20
    go_wp2_with fail
    refine C.mono ?_
    rintro e w2 ⟨rfl, hw2⟩
    obtain rfl := hw2.symm
    clear hw2 C
    go_wp2_with fail
    go_ret
    exact ⟨rfl, HQ.out⟩
  · rw [hs] at C
    have hb := sizeB_true.1 hs
    have hb1 : 0 ≤ W * H := Int.mul_nonneg (by unfold SizeB at hb; omega) (by unfold SizeB at hb; omega)
    have hb2 : W * H ≤ 65536 := by unfold SizeB at hb; omega
    by_cases hn : (n : Int) = W * H
    · rw [chk_ok hs hn]
      have e1 : ((n : Int) != W * H) = false := by simpa using hn
      clear hn hb hs
      go_enter Tryz.func20, Tryz.ntmps20
      go_wp2_with fail
      refine C.mono ?_
      rintro e w2 ⟨rfl, hw2⟩
      obtain rfl := hw2.symm
      clear hw2 C
      go_wp2_with fail
      go_ret
      exact ⟨rfl, HQ.out⟩
    · rw [chk_count hs hn]
      have e1 : ((n : Int) != W * H) = true := by simpa using hn
      clear hn hb hs
      go_enter Tryz.func20, Tryz.ntmps20
      go_wp2_with fail
      refine C.mono ?_
      rintro e w2 ⟨rfl, hw2⟩
      obtain rfl := hw2.symm
      clear hw2 C
      go_wp2_with fail
      go_ret
      exact ⟨rfl, HQ.out⟩
end Go.Proofs.YtieojgblamkgoaaGreatDoor
