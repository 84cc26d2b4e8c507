/- Regions that draw their order, whose operations read and whose callees may lay blocks of their own: one walk in the order of the text. -/
import Derived.Test.YtmfniimelibhfaaG7c903536
import Derived.Deep.QuietTactic
import Derived.BigQuiet
import Derived.Test.YtmfniimelibhfaaG66eb900a
namespace Go.Proofs.Ytmfniimelibhfaa
open Go.RowKit

/-- A world in which all that w has lies as it did. -/
structure QW (w : World) where
  x : World
  q : Q w x
theorem qw_some (w : World) : Nonempty (QW w) := ⟨⟨w, Q.refl w⟩⟩
theorem wp_region_quiet_Q {P : Program} {id : Nat} {R : Exit → Act → World → Prop} {a : Act} {w : World} {l : List Oper} (hm : P.follows .mixedOrders = true) (hB : Region.lexB .any l.toArray = true)
    (h : wpQuiet P l.toArray (fun w' => ∃ n : QW w, w' = n.x) (fun a' => ∀ w', (∃ n : QW w, w' = n.x) → R .normal a' w') l a) : (Code.region id l.toArray true).wp P R a w :=
  wp_region_quiet (C := fun w' => ∃ n : QW w, w' = n.x) hm hB ⟨⟨w.drew, (Q.refl w).drew⟩, rfl⟩ (by simpa using h)
theorem calls_qw {P : Program} {f : FuncId} {args : Array Value} {w : World} {n : QW w} {v : Value}
    (h : Calls P f args n.x fun e w' => e = .returned v ∧ Q n.x w') : Calls P f args n.x fun e w'' => e = .returned v ∧ ∃ m : QW w, w'' = m.x :=
  h.mono fun _ w' ⟨he, hq⟩ => ⟨he, ⟨w', n.q.trans hq⟩, rfl⟩
theorem calls_qs {P : Program} {f : FuncId} {args : Array Value} {w : World} {n : QW w} {v : Value}
    (h : Calls P f args n.x fun e w' => e = .returned v ∧ w' = n.x) : Calls P f args n.x fun e w'' => e = .returned v ∧ ∃ m : QW w, w'' = m.x :=
  h.mono fun _ _ ⟨he, hq⟩ => ⟨he, n, hq⟩
theorem qw_cell {w : World} {a : Addr} {v : Value} (h : w.cell? a = some v) : ∀ n : QW w, n.x.cell? a = some v := fun n => n.q.cell h
theorem qw_out {w w' : World} (h : ∃ n : QW w, w' = n.x) : Q w w' := by
  obtain ⟨n, rfl⟩ := h; exact n.q
end Go.Proofs.Ytmfniimelibhfaa
/- What a piece of a curve answers. -/
namespace Go.Proofs.Ytmfniimelibhfaa
open Go.RowKit

set_option maxHeartbeats 400000 in
theorem wide_any (a : Nat) (ha : a < 4294967296) (w : World) : Calls Try.prog 55 #[.int .u32 (a : Int)] w fun e w' => e = .returned (.float .f64 (wideW a)) ∧ Q w w' := by
  have l1 := f64from
  go_enter Try.func55, Try.ntmps55
  go_wp2_with fail
  refine (cwide_any a ha _).mono ?_
  rintro e w1 ⟨rfl, q1⟩
  go_wp2_with fail
  go_ret
  exact ⟨rfl, q1⟩

def clipV (p q y : Nat) : Nat := if lessB y p = true then p else if lessB q y = true then q else y
theorem clip_1 {p q y : Nat} (h : lessB y p = true) : clipV p q y = p := by unfold clipV; rw [if_pos h]
theorem clip_2 {p q y : Nat} (h : lessB y p = false) (h2 : lessB q y = true) : clipV p q y = q := by unfold clipV; rw [h, h2]; rfl
theorem clip_3 {p q y : Nat} (h : lessB y p = false) (h2 : lessB q y = false) : clipV p q y = y := by unfold clipV; rw [h, h2]; rfl

set_option maxHeartbeats 2000000 in
theorem within_slope (px py qx qy x A H D S T V : Nat) (ha : px < 4294967296) (hb : py < 4294967296) (hc : qx < 4294967296) (hd : qy < 4294967296) (hx : x < 4294967296) (he : equalB py qy = false)
    (hA : floatBits .sub .f64 (wideW x) (wideW px) = some A) (hH : floatBits .sub .f64 (wideW qy) (wideW py) = some H) (hD : floatBits .sub .f64 (wideW qx) (wideW px) = some D)
    (hS : floatBits .quo .f64 H D = some S) (hT : floatBits .mul .f64 A S = some T) (hV : floatBits .add .f64 (wideW py) T = some V) (w : World) :
    Calls Try.prog 42 #[.agg #[.int .u32 px, .int .u32 py], .agg #[.int .u32 qx, .int .u32 qy], .int .u32 x] w fun e w' => e = .returned (.int .u32 (clipV py qy (toldD (some (Ieee.double.read V))) : Nat)) ∧ Q w w' := by
  have lA := fun w => run_float_arith (P := Try.prog) w .sub 85 .f64 _ _ _ hA
  have lH := fun w => run_float_arith (P := Try.prog) w .sub 85 .f64 _ _ _ hH
  have lD := fun w => run_float_arith (P := Try.prog) w .sub 85 .f64 _ _ _ hD
  have lS := fun w => run_float_arith (P := Try.prog) w .quo 85 .f64 _ _ _ hS
  have lT := fun w => run_float_arith (P := Try.prog) w .mul 85 .f64 _ _ _ hT
  have lV := fun w => run_float_arith (P := Try.prog) w .add 85 .f64 _ _ _ hV
  have l0 := same64
  have l1 := f64bits
  obtain ⟨Y, hY⟩ : ∃ Y, Y = toldD (some (Ieee.double.read V)) := ⟨_, rfl⟩
  rw [← hY]
  have HY : Hid (toldD (some (Ieee.double.read V)) = Y) := hY.symm
  clear hA hH hD hS hT hV hY
  go_enter Try.func42, Try.ntmps42
  go_wp2_with fail
  refine (equal_any py qy _).mono ?_
  rintro e w1 ⟨rfl, rfl⟩
  go_wp2_with fail
  generalize hW : ((w.alloc _).alloc _) = W
  have hQ : Q w W := by rw [← hW]; exact ((Q.refl w).cells _ _).cells _ _
  have c0 : W.cell? ⟨w.heap.size, 0, none⟩ = some (.int .u32 px) := by rw [← hW]; simp [go_sem]
  have c1 : W.cell? ⟨w.heap.size, 1, none⟩ = some (.int .u32 py) := by rw [← hW]; simp [go_sem]
  have c2 : W.cell? ⟨w.heap.size + 1, 0, none⟩ = some (.int .u32 qx) := by rw [← hW]; simp [go_sem]
  have c3 : W.cell? ⟨w.heap.size + 1, 1, none⟩ = some (.int .u32 qy) := by rw [← hW]; simp [go_sem]
  clear hW
  have n0 := qw_some W
  have d0 := qw_cell c0
  refine wp_region_quiet_Q (by kernel_rfl) (by kernel_rfl) ?_
  repeat (quiet_step (first | (go_at_call 55; exact calls_qw (wide_any x hx _)) | (go_at_call 55; exact calls_qw (wide_any px ha _))))
  refine wpQuiet_nil ?_
  intro W2 hw'
  have hq2 := qw_out hw'
  clear hw'
  replace c0 := hq2.cell c0
  replace c1 := hq2.cell c1
  replace c2 := hq2.cell c2
  replace c3 := hq2.cell c3
  replace hQ := hQ.trans hq2
  clear hq2 d0 n0
  go_wp2_with fail
  have n0 := qw_some W2
  have d0 := qw_cell c0
  have d1 := qw_cell c1
  have d2 := qw_cell c2
  have d3 := qw_cell c3
  refine wp_region_quiet_Q (by kernel_rfl) (by kernel_rfl) ?_
  repeat (quiet_step (first | (go_at_call 55; exact calls_qw (wide_any qy hd _)) | (go_at_call 55; exact calls_qw (wide_any py hb _)) | (go_at_call 55; exact calls_qw (wide_any qx hc _)) | (go_at_call 55; exact calls_qw (wide_any px ha _))))
  refine wpQuiet_nil ?_
  intro W3 hw'
  have hq2 := qw_out hw'
  clear hw'
  replace c1 := hq2.cell c1
  replace c3 := hq2.cell c3
  replace hQ := hQ.trans hq2
  clear hq2 d0 d1 d2 d3 n0 c0 c2
  go_wp2_with fail
  refine (wide_any py hb _).mono ?_
  rintro e w1 ⟨rfl, q1⟩
  replace c1 := q1.cell c1
  replace c3 := q1.cell c3
  replace hQ := hQ.trans q1
  clear q1
  go_wp2_with fail
  refine (cnarrow_any V _).mono ?_
  rintro e w2 ⟨rfl, q2⟩
  rw [HY.out]
  replace c1 := q2.cell c1
  replace c3 := q2.cell c3
  replace hQ := hQ.trans q2
  clear q2
  go_wp2_with fail
  refine (less_any Y py _).mono ?_
  rintro e w3 ⟨rfl, rfl⟩
  cases h1 : lessB Y py
  · go_wp2_with fail
    refine (less_any qy Y _).mono ?_
    rintro e w4 ⟨rfl, rfl⟩
    cases h2 : lessB qy Y
    · go_wp2_with fail
      go_ret
      exact ⟨ret_int (by rw [clip_3 h1 h2]), hQ⟩
    · go_wp2_with fail
      go_ret
      exact ⟨ret_int (by rw [clip_2 h1 h2]), hQ⟩
  · go_wp2_with fail
    go_ret
    exact ⟨ret_int (by rw [clip_1 h1]), hQ⟩

set_option maxHeartbeats 400000 in
theorem within_flat (px py qx qy x : Nat) (he : equalB py qy = true) (w : World) :
    Calls Try.prog 42 #[.agg #[.int .u32 px, .int .u32 py], .agg #[.int .u32 qx, .int .u32 qy], .int .u32 x] w fun e w' => e = .returned (.int .u32 py) ∧ Q w w' := by
  go_enter Try.func42, Try.ntmps42
  go_wp2_with fail
  refine (equal_any py qy _).mono ?_
  rintro e w1 ⟨rfl, rfl⟩
  go_wp2_with fail
  go_ret
  exact ⟨rfl, ((Q.refl w).cells _ _).cells _ _⟩
end Go.Proofs.Ytmfniimelibhfaa
/- Plain facts: a piece of a curve in binary64: what is reckoned is finite, and no greater than a sample may be. -/
namespace Go.Proofs.Ytmfniimelibhfaa
open Go.RowKit

theorem vN_rel {M : Nat} (hM : M.log2 ≤ 2000) : val64 (rungOf Ieee.double M (-1074)) * 2 ^ 53 ≤ M * (2 ^ 53 + 1) := by
  rw [vN_eq hM]
  have h := (rne_near M (lostK M)).1
  rcases Nat.eq_zero_or_pos (lostK M) with g | g
  · rw [g, rne_zero, Nat.pow_zero, Nat.mul_one]; omega
  · have h0 : M ≠ 0 := by intro h0; subst h0; exact absurd g (by decide)
    have h1 := Nat.log2_self_le h0
    rw [show M.log2 = 52 + lostK M by unfold lostK at *; omega, Nat.pow_add] at h1
    omega
theorem vN_rel2 {M : Nat} (hM : M.log2 ≤ 2000) : M * (2 ^ 53 - 1) ≤ val64 (rungOf Ieee.double M (-1074)) * 2 ^ 53 := by
  rw [vN_eq hM]
  have h := (rne_near M (lostK M)).2
  rcases Nat.eq_zero_or_pos (lostK M) with g | g
  · rw [g, rne_zero, Nat.pow_zero, Nat.mul_one]; omega
  · have h0 : M ≠ 0 := by intro h0; subst h0; exact absurd g (by decide)
    have h1 := Nat.log2_self_le h0
    rw [show M.log2 = 52 + lostK M by unfold lostK at *; omega, Nat.pow_add] at h1
    omega
theorem vN_mono {M N : Nat} (h : M ≤ N) : val64 (rungOf Ieee.double M (-1074)) ≤ val64 (rungOf Ieee.double N (-1074)) := val_le64 (rung_mono _ _ h)
theorem RN_mono {Y Z : Int} (h : Y ≤ Z) : RN Y ≤ RN Z := by
  unfold RN
  by_cases hy : Y < 0
  · rw [if_pos hy]
    by_cases hz : Z < 0
    · rw [if_pos hz]
      have := vN_mono (show Z.natAbs ≤ Y.natAbs by omega)
      omega
    · rw [if_neg hz]; omega
  · rw [if_neg hy, if_neg (by omega)]
    have := vN_mono (show Y.natAbs ≤ Z.natAbs by omega)
    omega
theorem RN_pow (k : Nat) (hk : k ≤ 1900) : RN ((2 ^ k : Nat) : Int) = (2 ^ k : Nat) := by
  refine RN_exact (g := k) ?_ (Int.dvd_refl _) ?_
  · rw [Int.natAbs_natCast, Nat.log2_two_pow]; omega
  · rw [Int.natAbs_natCast]; exact Nat.pow_lt_pow_right (by decide) (by omega)

/-- How a word of a normal number is made up. -/
theorem plc_of {r k : Nat} (h : 2 ^ k ≤ val64 r) : k < 53 + plc64 r := by
  have hm := mag_lt64 r
  have h1 : val64 r < 2 ^ (53 + plc64 r) := by
    unfold val64; rw [Nat.pow_add]; exact Nat.mul_lt_mul_of_pos_right hm (Nat.two_pow_pos _)
  exact (Nat.pow_lt_pow_iff_right (by decide : 1 < 2)).1 (Nat.lt_of_le_of_lt h h1)
theorem plc_to {r k : Nat} (hp : 0 < plc64 r) (h : val64 r < 2 ^ k) : 52 + plc64 r < k := by
  have hm := mag_ge64 hp
  have h1 : 2 ^ (52 + plc64 r) ≤ val64 r := by
    unfold val64; rw [Nat.pow_add]; exact Nat.mul_le_mul_right _ hm
  exact (Nat.pow_lt_pow_iff_right (by decide : 1 < 2)).1 (Nat.lt_of_le_of_lt h1 h)
theorem log_mag {r : Nat} (hp : 0 < plc64 r) : (mag64 r).log2 = 52 := by
  have h1 := mag_ge64 hp
  have h2 := mag_lt64 r
  exact (Nat.log2_eq_iff (by omega)).2 ⟨h1, h2⟩

theorem vN_pow (k : Nat) (hk : k ≤ 1900) : val64 (rungOf Ieee.double (2 ^ k) (-1074)) = 2 ^ k := by
  refine vN_exact (g := k) ?_ (Nat.dvd_refl _) ?_
  · rw [Nat.log2_two_pow]; omega
  · exact Nat.pow_lt_pow_right (by decide) (by omega)
theorem log_lt {n k : Nat} (h : n < 2 ^ k) (hk : k ≤ 2000) : n.log2 ≤ 2000 := by
  by_cases h0 : n = 0
  · subst h0; decide
  · have := (Nat.log2_lt h0).2 h; omega
/-- The word of a number of least units that is not below 0. -/
theorem word_pos (M : Nat) {a b : Nat} (h0 : 2 ^ a ≤ M) (h1 : M < 2 ^ b) (hb : b ≤ 1900) :
    rung64 (wordOf false M) < 9218868437227405312 ∧ sgn64 (wordOf false M) = false ∧ val64 (rung64 (wordOf false M)) = val64 (rungOf Ieee.double M (-1074)) ∧
      2 ^ a ≤ val64 (rung64 (wordOf false M)) ∧ val64 (rung64 (wordOf false M)) ≤ 2 ^ b ∧ val64 (rung64 (wordOf false M)) * 2 ^ 53 ≤ M * (2 ^ 53 + 1) := by
  have hl := log_lt h1 (by omega)
  have hab : a < b := (Nat.pow_lt_pow_iff_right (by decide : 1 < 2)).1 (Nat.lt_of_le_of_lt h0 h1)
  obtain ⟨e1, e2, e3, _⟩ := wordOf_facts (σ := false) (Z := (M : Int)) (by rw [Int.natAbs_natCast]; exact hl) (fun _ => (decide_eq_false (by omega)).symm)
  rw [Int.natAbs_natCast] at e1
  rw [e1]
  refine ⟨by rw [← e1]; exact e3, e2, rfl, ?_, ?_, vN_rel hl⟩
  · have := vN_mono h0; rwa [vN_pow a (by omega)] at this
  · have := vN_mono (Nat.le_of_lt h1); rwa [vN_pow b (by omega)] at this
/-- A positive quotient of normal numbers. -/
theorem quo_pos {x y E : Nat} (hE : E = 1074) (hx : rung64 x < 9218868437227405312) (hy : rung64 y < 9218868437227405312) (sx : sgn64 x = false) (sy : sgn64 y = false)
    (px : 872 < plc64 (rung64 x)) (qx : plc64 (rung64 x) < 1158) (py : 872 < plc64 (rung64 y)) (qy : plc64 (rung64 y) < 1158) :
    ∃ r, floatBits .quo .f64 x y = some r ∧ rung64 r < 9218868437227405312 ∧ sgn64 r = false ∧ 700 < plc64 (rung64 r) ∧ plc64 (rung64 r) < 1330 ∧
      val64 (rung64 r) * val64 (rung64 y) * 2 ^ 107 ≤ val64 (rung64 x) * 2 ^ E * ((2 ^ 54 + 1) * (2 ^ 53 + 1)) := by
  have lx := log_mag (r := rung64 x) (by omega)
  have ly := log_mag (r := rung64 y) (by omega)
  have mx := mag_ge64 (r := rung64 x) (by omega)
  have my := mag_ge64 (r := rung64 y) (by omega)
  have nx := mag_lt64 (rung64 x)
  have ny := mag_lt64 (rung64 y)
  have rx := read_fin64 hx
  have ry := read_fin64 hy
  have vx : val64 (rung64 x) = mag64 (rung64 x) * 2 ^ plc64 (rung64 x) := rfl
  have vy : val64 (rung64 y) = mag64 (rung64 y) * 2 ^ plc64 (rung64 y) := rfl
  rw [vx, vy]
  rw [sx] at rx
  rw [sy] at ry
  clear vx vy
  generalize mag64 (rung64 x) = m at *
  generalize mag64 (rung64 y) = n at *
  generalize plc64 (rung64 x) = i at *
  generalize plc64 (rung64 y) = j at *
  obtain ⟨q, hq⟩ : ∃ q, q = m * 2 ^ 54 / n := ⟨_, rfl⟩
  obtain ⟨S, hS⟩ : ∃ S, S = 2 * (m * 2 ^ 54 / n) + (m * 2 ^ 54 % n != 0).toNat := ⟨_, rfl⟩
  have hq1 : q * n ≤ m * 2 ^ 54 := by rw [hq]; exact Nat.div_mul_le_self _ _
  have hq0 : 2 ^ 53 ≤ q := by
    rw [hq, Nat.le_div_iff_mul_le (by omega)]; omega
  have hq2 : q < 2 ^ 56 := by
    rw [hq, Nat.div_lt_iff_lt_mul (by omega)]; omega
  have hc : (m * 2 ^ 54 % n != 0).toNat ≤ 1 := Bool.toNat_le _
  rw [← hq] at hS
  have S0 : 2 ^ 54 ≤ S := by omega
  have S1 : S < 2 ^ 58 := by omega
  have S2 : S * n * 2 ^ 53 ≤ m * 2 ^ 54 * (2 ^ 54 + 1) := by
    have : S * n ≤ 2 * (m * 2 ^ 54) + n := by
      have h1 : S * n ≤ (2 * q + 1) * n := Nat.mul_le_mul_right _ (by omega)
      have h2 : (2 * q + 1) * n = 2 * (q * n) + n := by rw [Nat.add_mul, Nat.one_mul, Nat.mul_assoc]
      omega
    omega
  obtain ⟨K, hK⟩ : ∃ K : Nat, K + j = i + 1019 := ⟨i + 1019 - j, by omega⟩
  have hb : S * 2 ^ K < 2 ^ (58 + K) := by rw [Nat.pow_add]; exact Nat.mul_lt_mul_of_pos_right S1 (Nat.two_pow_pos _)
  have ha : 2 ^ (54 + K) ≤ S * 2 ^ K := by rw [Nat.pow_add]; exact Nat.mul_le_mul_right _ S0
  obtain ⟨f1, f2, _, f4, f5, f6⟩ := word_pos (S * 2 ^ K) ha hb (by omega)
  have f7 := plc_of f4
  have f8 := plc_to (k := 59 + K) (by omega) (Nat.lt_of_le_of_lt f5 (Nat.pow_lt_pow_right (by decide) (by omega)))
  refine ⟨wordOf false ((S * 2 ^ K : Nat) : Int), ?_, f1, f2, by omega, by omega, ?_⟩
  · show ((Ieee.double.read x).quotient 54 (Ieee.double.read y)).map Ieee.double.write = _
    rw [rx, ry]
    simp only [Ieee.Datum.quotient]
    rw [if_neg (by omega), lx, ly, Nat.shiftLeft_eq]
    show some (Ieee.double.nearest _ _ _) = _
    rw [nearest_rung]
    unfold wordOf
    rw [Int.natAbs_natCast, rung_scale, hS, hq]
    congr 3
    omega
  · generalize val64 (rung64 (wordOf false ((S * 2 ^ K : Nat) : Int))) = v at f6
    have e1 : 2 ^ (i + 1020) = 2 ^ K * 2 ^ j * 2 := by rw [← Nat.pow_add, hK, ← Nat.pow_succ]
    have e2 : 2 ^ i * 2 ^ E = 2 ^ 54 * 2 ^ (i + 1020) := by rw [← Nat.pow_add, ← Nat.pow_add, show i + E = 54 + (i + 1020) by omega]
    generalize 2 ^ (i + 1020) = Y at e1 e2
    generalize 2 ^ E = W at e2
    generalize 2 ^ i = I at e2
    clear hE hK f1 f2 f4 f5 f7 f8 ha hb hS hq hq1 hq0 hq2 hc S0 S1 rx ry
    generalize 2 ^ K = A at e1 f6
    generalize 2 ^ j = B at e1
    have g1 : v * 2 ^ 53 * (n * B * 2 ^ 54) ≤ S * A * (2 ^ 53 + 1) * (n * B * 2 ^ 54) := Nat.mul_le_mul_right _ f6
    have g2 : S * A * (2 ^ 53 + 1) * (n * B * 2 ^ 54) = S * n * 2 ^ 53 * (Y * (2 ^ 53 + 1)) := by
      rw [e1, show (2 : Nat) ^ 54 = 2 ^ 53 * 2 from rfl]; ac_rfl
    have g3 : S * n * 2 ^ 53 * (Y * (2 ^ 53 + 1)) ≤ m * 2 ^ 54 * (2 ^ 54 + 1) * (Y * (2 ^ 53 + 1)) := Nat.mul_le_mul_right _ S2
    have g4 : m * 2 ^ 54 * (2 ^ 54 + 1) * (Y * (2 ^ 53 + 1)) = m * I * W * ((2 ^ 54 + 1) * (2 ^ 53 + 1)) := by
      rw [Nat.mul_assoc m I, e2]; ac_rfl
    have g5 : v * (n * B) * 2 ^ 107 = v * 2 ^ 53 * (n * B * 2 ^ 54) := by
      rw [show (2 : Nat) ^ 107 = 2 ^ 53 * 2 ^ 54 from rfl]; ac_rfl
    rw [g5, ← g4]
    exact Nat.le_trans g1 (Nat.le_trans (Nat.le_of_eq g2) g3)

/-- A product of normal numbers that are not below 0. -/
theorem mul_pos {x y E : Nat} (hE : E = 1074) (hx : rung64 x < 9218868437227405312) (hy : rung64 y < 9218868437227405312) (sx : sgn64 x = false) (sy : sgn64 y = false)
    (px : 872 < plc64 (rung64 x)) (qx : plc64 (rung64 x) < 1158) (py : 700 < plc64 (rung64 y)) (qy : plc64 (rung64 y) < 1330) :
    ∃ N, N * 2 ^ E = val64 (rung64 x) * val64 (rung64 y) ∧ N.log2 ≤ 1900 ∧ floatBits .mul .f64 x y = some (wordOf false (N : Int)) ∧ rung64 (wordOf false N) < 9218868437227405312 ∧ sgn64 (wordOf false N) = false ∧
      val64 (rung64 (wordOf false N)) = val64 (rungOf Ieee.double N (-1074)) ∧ val64 (rung64 (wordOf false N)) * 2 ^ 53 ≤ N * (2 ^ 53 + 1) := by
  have mx := mag_ge64 (r := rung64 x) (by omega)
  have my := mag_ge64 (r := rung64 y) (by omega)
  have nx := mag_lt64 (rung64 x)
  have ny := mag_lt64 (rung64 y)
  have rx := read_fin64 hx
  have ry := read_fin64 hy
  have vx : val64 (rung64 x) = mag64 (rung64 x) * 2 ^ plc64 (rung64 x) := rfl
  have vy : val64 (rung64 y) = mag64 (rung64 y) * 2 ^ plc64 (rung64 y) := rfl
  rw [vx, vy]
  rw [sx] at rx
  rw [sy] at ry
  clear vx vy
  generalize mag64 (rung64 x) = m at *
  generalize mag64 (rung64 y) = n at *
  generalize plc64 (rung64 x) = i at *
  generalize plc64 (rung64 y) = j at *
  obtain ⟨K, hK⟩ : ∃ K : Nat, K + E = i + j := ⟨i + j - E, by omega⟩
  have h0 : 2 ^ 104 ≤ m * n := Nat.le_trans (by decide) (Nat.mul_le_mul mx my)
  have h1 : m * n < 2 ^ 106 := Nat.lt_of_lt_of_le (Nat.mul_lt_mul'' nx ny) (by decide)
  have ha : 2 ^ (104 + K) ≤ m * n * 2 ^ K := by rw [Nat.pow_add]; exact Nat.mul_le_mul_right _ h0
  have hb : m * n * 2 ^ K < 2 ^ (106 + K) := by rw [Nat.pow_add]; exact Nat.mul_lt_mul_of_pos_right h1 (Nat.two_pow_pos _)
  obtain ⟨f1, f2, f3, _, _, f6⟩ := word_pos (m * n * 2 ^ K) ha hb (by omega)
  refine ⟨m * n * 2 ^ K, ?_, ?_, ?_, f1, f2, f3, f6⟩
  · rw [Nat.mul_assoc, ← Nat.pow_add, hK, Nat.pow_add]; ac_rfl
  · have := (Nat.log2_lt (n := m * n * 2 ^ K) (by have := Nat.two_pow_pos (104 + K); omega)).2 hb; omega
  · show ((Ieee.double.read x).product (Ieee.double.read y)).map Ieee.double.write = _
    rw [rx, ry]
    show some (Ieee.double.nearest (false ^^ false) (m * n) (-1074 + (i : Int) + (-1074 + (j : Int)))) = _
    rw [nearest_rung]
    unfold wordOf
    rw [Int.natAbs_natCast, rung_scale, show -1074 + (i : Int) + (-1074 + (j : Int)) = -1074 + (K : Int) by omega]
    rfl
end Go.Proofs.Ytmfniimelibhfaa
/- Plain facts: a piece of a curve in binary64. -/
namespace Go.Proofs.Ytmfniimelibhfaa
open Go.RowKit

theorem sampleZ_eq (a : Nat) {c : Nat} (hc : c = 925) : sampleZ a = sval32 a * 2 ^ c := by
  unfold sampleZ sval32 val32 Ieee.signed
  rw [← hc, Nat.shiftLeft_eq, Nat.pow_add, ← Nat.mul_assoc]
  split
  · rw [Int.neg_mul, Int.natCast_mul, Int.natCast_pow]; rfl
  · rw [Int.natCast_mul, Int.natCast_pow]; rfl
theorem sampleZ_lt_iff (a b : Nat) : sampleZ a < sampleZ b ↔ srung32 a < srung32 b := by
  obtain ⟨c, hc⟩ : ∃ c : Nat, c = 925 := ⟨_, rfl⟩
  rw [sampleZ_eq a hc, sampleZ_eq b hc]
  have hp : (0 : Int) < 2 ^ c := Int.pow_pos (by decide)
  have h := sval_srung32 a b
  rw [Int.mul_lt_mul_right hp]
  rw [← Int.compare_eq_lt, h, Int.compare_eq_lt]
theorem sampleZ_bd {a : Nat} (h : rung32 a < 2139095040) {F : Nat} (hF : F = 1176) : -((67108860 * 2 ^ F : Nat) : Int) ≤ sampleZ a ∧ sampleZ a ≤ ((67108860 * 2 ^ F : Nat) : Int) := by
  have hm := mag_lt32 (rung32 a)
  have hp := plc_le32 h
  have e : (sampleZ a).natAbs ≤ 67108860 * 2 ^ F := by
    unfold sampleZ
    rw [signed_abs]
    have h1 : mag32 (rung32 a) * 2 ^ (plc32 (rung32 a) + 925) ≤ 16777215 * 2 ^ (2 + F) := Nat.mul_le_mul (by omega) (Nat.pow_le_pow_right (by decide) (by omega))
    have e : 2 ^ (2 + F) = 4 * 2 ^ F := by rw [Nat.pow_add]
    rw [e] at h1
    omega
  omega

/-- A positive difference of samples. -/
theorem sub_pos {a b : Nat} (ha : rung32 a < 2139095040) (hb : rung32 b < 2139095040) (h : sampleZ b < sampleZ a) :
    ∃ M : Nat, (M : Int) = sampleZ a - sampleZ b ∧ M.log2 ≤ 1900 ∧ floatBits .sub .f64 (wideN a) (wideN b) = some (wordOf false (M : Int)) ∧ rung64 (wordOf false M) < 9218868437227405312 ∧ sgn64 (wordOf false M) = false ∧
      872 < plc64 (rung64 (wordOf false M)) ∧ plc64 (rung64 (wordOf false M)) < 1158 ∧ val64 (rung64 (wordOf false M)) = val64 (rungOf Ieee.double M (-1074)) ∧ val64 (rung64 (wordOf false M)) * 2 ^ 53 ≤ M * (2 ^ 53 + 1) := by
  obtain ⟨c, hc⟩ : ∃ c : Nat, c = 925 := ⟨_, rfl⟩
  obtain ⟨F, hF⟩ : ∃ F : Nat, F = 1176 := ⟨_, rfl⟩
  obtain ⟨a0, a1⟩ := sampleZ_bd ha hF
  obtain ⟨b0, b1⟩ := sampleZ_bd hb hF
  obtain ⟨f1, s1, v1⟩ := wide_fin ha
  obtain ⟨f2, s2, v2⟩ := wide_fin hb
  obtain ⟨M, hM⟩ : ∃ M : Nat, (M : Int) = sampleZ a - sampleZ b := ⟨(sampleZ a - sampleZ b).toNat, by omega⟩
  have hd : 2 ^ c ∣ M := by
    have : ((2 ^ c : Nat) : Int) ∣ (M : Int) := by
      rw [hM]
      exact Int.dvd_sub (signed_dvd _ _ (by omega)) (signed_dvd _ _ (by omega))
    exact Int.natCast_dvd_natCast.1 this
  have h0 : 2 ^ c ≤ M := Nat.le_of_dvd (by omega) hd
  have h1 : M < 2 ^ (27 + F) := by
    rw [Nat.pow_add]
    have := Nat.two_pow_pos F
    omega
  obtain ⟨g1, g2, g3, g4, g5, g6⟩ := word_pos M h0 h1 (by omega)
  have g7 := plc_of g4
  have g8 := plc_to (k := 28 + F) (by omega) (Nat.lt_of_le_of_lt g5 (Nat.pow_lt_pow_right (by decide) (by omega)))
  refine ⟨M, hM, ?_, ?_, g1, g2, by omega, by omega, g3, g6⟩
  · have := (Nat.log2_lt (n := M) (by have := Nat.two_pow_pos c; omega)).2 h1; omega
  · rw [sub_fin f1 f2, v1, v2, ← hM, sg_of (by have := Nat.two_pow_pos c; omega), decide_eq_false (by omega)]

theorem val_lim {F : Nat} (hF : F = 1176) : val64 5183643170835005440 = 67108862 * 2 ^ F := by
  have e1 : mag64 5183643170835005440 = 67108862 * 2 ^ 27 := by decide
  obtain ⟨J, hJ⟩ : ∃ J, J = plc64 5183643170835005440 := ⟨_, rfl⟩
  have e2 : plc64 5183643170835005440 = 1149 := by decide
  unfold val64
  rw [e1, ← hJ, Nat.mul_assoc, ← Nat.pow_add, show 27 + J = F by omega]

theorem piece_key {t N W a d s h M : Nat} (hW : 0 < W) (wT : t * 2 ^ 53 ≤ N * (2 ^ 53 + 1)) (eN : N * W = a * s) (hm : a ≤ d) (wS : s * d * 2 ^ 107 ≤ h * W * ((2 ^ 54 + 1) * (2 ^ 53 + 1))) (wh : h * 2 ^ 53 ≤ M * (2 ^ 53 + 1)) : t * 2 ^ 50 ≤ M * (2 ^ 50 + 1) := by
  have c1 : (2 ^ 53 + 1) * ((2 ^ 54 + 1) * (2 ^ 53 + 1) * (2 ^ 53 + 1)) ≤ (2 ^ 50 + 1) * 2 ^ 163 := by decide
  have c2 : 2 ^ 53 * 2 ^ 107 * 2 ^ 53 = 2 ^ 50 * 2 ^ 163 := by decide
  generalize hA : 2 ^ 53 + 1 = A at *
  generalize hB : 2 ^ 54 + 1 = B at *
  generalize hP : (2 : Nat) ^ 53 = P at wT wh c2
  generalize hR : (2 : Nat) ^ 107 = R at wS c2
  generalize hC : 2 ^ 50 + 1 = C at *
  generalize hD : (2 : Nat) ^ 50 = D at c2 ⊢
  have hG : 0 < (2 : Nat) ^ 163 := by decide
  generalize (2 : Nat) ^ 163 = G at c1 c2 hG
  clear hA hB hP hR hC hD
  have k1 : t * P * W * R ≤ N * A * W * R := Nat.mul_le_mul_right _ (Nat.mul_le_mul_right _ wT)
  have k2 : N * A * W * R = a * s * A * R := by rw [← eN]; ac_rfl
  have k3 : a * s * A * R ≤ d * s * A * R := Nat.mul_le_mul_right _ (Nat.mul_le_mul_right _ (Nat.mul_le_mul_right _ hm))
  have k4 : d * s * A * R = s * d * R * A := by ac_rfl
  have k5 : s * d * R * A ≤ h * W * (B * A) * A := Nat.mul_le_mul_right _ wS
  have k6 : t * P * R * W ≤ h * (B * A * A) * W := by
    have e1 : t * P * R * W = t * P * W * R := by ac_rfl
    have e2 : h * (B * A * A) * W = h * W * (B * A) * A := by ac_rfl
    rw [e1, e2]
    exact Nat.le_trans k1 (Nat.le_trans (Nat.le_of_eq k2) (Nat.le_trans k3 (Nat.le_trans (Nat.le_of_eq k4) k5)))
  have k7 := Nat.le_of_mul_le_mul_right k6 hW
  have k8 : t * P * R * P ≤ h * (B * A * A) * P := Nat.mul_le_mul_right _ k7
  have k9 : h * (B * A * A) * P ≤ M * A * (B * A * A) := by
    have e : h * (B * A * A) * P = h * P * (B * A * A) := by ac_rfl
    rw [e]; exact Nat.mul_le_mul_right _ wh
  have k10 : M * A * (B * A * A) ≤ M * (C * G) := by rw [Nat.mul_assoc]; exact Nat.mul_le_mul_left _ c1
  have e1 : t * P * R * P = t * D * G := by
    rw [Nat.mul_assoc t D, ← c2]; ac_rfl
  refine Nat.le_of_mul_le_mul_right ?_ hG
  rw [← e1]
  have e2 : M * C * G = M * (C * G) := Nat.mul_assoc ..
  rw [e2]
  exact Nat.le_trans k8 (Nat.le_trans k9 k10)

/-- What is reckoned between two knots. -/
theorem piece {px py qx qy x : Nat} (ha : rung32 px < 2139095040) (hb : rung32 py < 2139095040) (hc : rung32 qx < 2139095040) (hd : rung32 qy < 2139095040) (hx : rung32 x < 2139095040)
    (h1 : sampleZ px < sampleZ x) (h2 : sampleZ x < sampleZ qx) (h3 : sampleZ py < sampleZ qy) {E : Nat} (hE : E = 1074) :
    ∃ A H D S T V M N : Nat, floatBits .sub .f64 (wideN x) (wideN px) = some A ∧ floatBits .sub .f64 (wideN qy) (wideN py) = some H ∧ floatBits .sub .f64 (wideN qx) (wideN px) = some D ∧
      floatBits .quo .f64 H D = some S ∧ floatBits .mul .f64 A S = some T ∧ floatBits .add .f64 (wideN py) T = some V ∧ rung64 V < 5183643170835005440 ∧
      (M : Int) = sampleZ x - sampleZ px ∧ N * 2 ^ E = val64 (rungOf Ieee.double M (-1074)) * val64 (rung64 S) ∧ sval64 V = RN (sampleZ py + val64 (rungOf Ieee.double N (-1074))) := by
  obtain ⟨F, hF⟩ : ∃ F : Nat, F = 1176 := ⟨_, rfl⟩
  obtain ⟨Mx, ex, lx, fx, rx, sx, px1, px2, vx, wx⟩ := sub_pos hx ha h1
  obtain ⟨Mh, eh, lh, fh, rh, sh, ph1, ph2, vh, wh⟩ := sub_pos hd hb h3
  obtain ⟨Md, ed, ld, fd, rd, sd, pd1, pd2, vd, wd'⟩ := sub_pos hc ha (by omega)
  obtain ⟨S, fS, rS, sS, pS1, pS2, wS⟩ := quo_pos hE rh rd sh sd ph1 ph2 pd1 pd2
  obtain ⟨N, eN, lN, fT, rT, sT, vT, wT⟩ := mul_pos hE rx rS sx sS px1 px2 pS1 pS2
  obtain ⟨y0, y1⟩ := sampleZ_bd hb hF
  obtain ⟨z0, z1⟩ := sampleZ_bd hd hF
  obtain ⟨fy, sy, vy⟩ := wide_fin hb
  have hmono := vN_mono (show Mx ≤ Md by omega)
  rw [vx] at wx eN
  rw [vd] at wS
  rw [vh] at wS wh
  rw [vT] at wT
  obtain ⟨a, ea⟩ : ∃ a, a = val64 (rungOf Ieee.double Mx (-1074)) := ⟨_, rfl⟩
  obtain ⟨d, ed'⟩ : ∃ d, d = val64 (rungOf Ieee.double Md (-1074)) := ⟨_, rfl⟩
  obtain ⟨h, eh'⟩ : ∃ h, h = val64 (rungOf Ieee.double Mh (-1074)) := ⟨_, rfl⟩
  obtain ⟨s, hs⟩ : ∃ s, s = val64 (rung64 S) := ⟨_, rfl⟩
  obtain ⟨t, ht⟩ : ∃ t, t = val64 (rungOf Ieee.double N (-1074)) := ⟨_, rfl⟩
  have hst : sval64 (wordOf false (N : Int)) = (t : Int) := by
    unfold sval64; rw [sT, vT, ← ht]; rfl
  rw [← hs] at wS eN
  rw [← ht] at wT
  rw [← ea, ← ed'] at hmono
  rw [← ea] at eN
  rw [← ed', ← eh'] at wS
  rw [← eh'] at wh
  have key : t * 2 ^ 50 ≤ Mh * (2 ^ 50 + 1) := piece_key (Nat.two_pow_pos E) wT eN hmono wS wh
  have hZ0 : -((67108860 * 2 ^ F : Nat) : Int) ≤ sampleZ py + (t : Int) := by omega
  have hZ1 : sampleZ py + (t : Int) ≤ ((67108861 * 2 ^ F : Nat) : Int) := by omega
  have hl : (sampleZ py + (t : Int)).natAbs.log2 ≤ 2000 := by
    refine log_lt (k := 26 + F) ?_ (by omega)
    rw [Nat.pow_add]
    have := Nat.two_pow_pos F
    omega
  have exact1 : ∀ m : Nat, m < 2 ^ 27 → RN ((m * 2 ^ F : Nat) : Int) = ((m * 2 ^ F : Nat) : Int) := by
    intro m hm
    have h1 : m * 2 ^ F < 2 ^ (27 + F) := by rw [Nat.pow_add]; exact Nat.mul_lt_mul_of_pos_right hm (Nat.two_pow_pos _)
    refine RN_exact (g := F) ?_ (Int.natCast_dvd_natCast.2 (Nat.dvd_mul_left _ _)) ?_
    · rw [Int.natAbs_natCast]; exact log_lt h1 (by omega)
    · rw [Int.natAbs_natCast]; exact Nat.lt_of_lt_of_le h1 (Nat.pow_le_pow_right (by decide) (by omega))
  have exact2 : RN (-((67108860 * 2 ^ F : Nat) : Int)) = -((67108860 * 2 ^ F : Nat) : Int) := by
    have h1 : 67108860 * 2 ^ F < 2 ^ (27 + F) := by rw [Nat.pow_add]; exact Nat.mul_lt_mul_of_pos_right (by decide) (Nat.two_pow_pos _)
    refine RN_exact (g := F) ?_ (Int.dvd_neg.2 (Int.natCast_dvd_natCast.2 (Nat.dvd_mul_left _ _))) ?_
    · rw [Int.natAbs_neg, Int.natAbs_natCast]; exact log_lt h1 (by omega)
    · rw [Int.natAbs_neg, Int.natAbs_natCast]; exact Nat.lt_of_lt_of_le h1 (Nat.pow_le_pow_right (by decide) (by omega))
  have r0 := RN_mono hZ0
  have r1 := RN_mono hZ1
  rw [exact1 67108861 (by decide)] at r1
  rw [exact2] at r0
  obtain ⟨_, _, w3, w4⟩ := wordOf_facts (σ := sg (sgn64 (wideN py)) (sgn64 (wordOf false (N : Int))) (sampleZ py + (t : Int))) hl sg_of
  have fV := add_fin fy rT
  rw [vy, hst] at fV
  refine ⟨_, _, _, S, _, _, Mx, N, fx, fh, fd, fS, fT, fV, ?_, ex, by rw [← hs, ← ea]; exact eN, by rw [← ht]; exact w4⟩
  rw [← val_inj_lt64, val_lim hF, ← val_abs, w4]
  omega
end Go.Proofs.Ytmfniimelibhfaa
