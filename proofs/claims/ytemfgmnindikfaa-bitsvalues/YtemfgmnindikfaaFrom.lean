/- What the program's and the document's FromParts return, of every two numbers; what was in memory stays as it was. -/
import Derived.Test.YtemfgmnindikfaaRows
import Derived.Test.YtemfgmnindikfaaFit
import Derived.WalkKit
import Derived.WalkSpells
import Derived.WalkLawsBesides
namespace Go.Proofs.Ytemfgmnindikfaa
open Go.RowKit

theorem abs_wrap {n : Int} (h0 : -9223372036854775808 ≤ n) (h : n < 0) : IntKind.u64.wrap (-IntKind.u64.wrap n) = n.natAbs := by
  simp only [IntKind.wrap_u64]; omega

set_option maxHeartbeats 400000 in
theorem size_any (n : Int) (h0 : -9223372036854775808 ≤ n) (h1 : n ≤ 9223372036854775807) (w : World) :
    Calls Try.prog 45 #[.int .i64 n] w fun e w' => e = .returned (.int .u64 n.natAbs) ∧ w' = w := by
  by_cases h : n < 0
  · go_enter Try.func45, Try.ntmps45
    go_wp2_with fail
    go_ret
    exact ⟨ret_int (abs_wrap h0 h), rfl⟩
  · go_enter Try.func45, Try.ntmps45
    go_wp2_with fail
    go_ret
    exact ⟨ret_int (by omega), rfl⟩

/-- What 'fitted' returns. -/
def fitN : Option (Int × Int) → Int | none => 0 | some x => x.1
def fitE : Option (Int × Int) → Int | none => 0 | some x => x.2
theorem ret_some {a b : Int} {o : Option (Int × Int)} (h : o = some (a, b)) : Ending.returned (.tuple #[.int .u64 a, .int .i64 b, .bool true]) = .returned (.tuple #[.int .u64 (fitN o), .int .i64 (fitE o), .bool o.isSome]) := by rw [h]; rfl
theorem ret_none {o : Option (Int × Int)} (h : o = none) : Ending.returned (.tuple #[.int .u64 0, .int .i64 0, .bool false]) = .returned (.tuple #[.int .u64 (fitN o), .int .i64 (fitE o), .bool o.isSome]) := by rw [h]; rfl

theorem fit_at {m e x y p q : Int} (h : fitV m e = if 104 < (up 24 x y).2 then none else some (up 24 x y)) (g : up 24 x y = (p, q)) (k : q ≤ 104) : fitV m e = some (p, q) := by
  rw [h, g, if_neg (by show ¬ (104 < q); omega)]

/-- One halving keeps what the halving comes to. -/
theorem halved {g : Nat} {x y : Int} {z : Int × Int} (x0 : 0 < x) (x1 : x < 2 ^ g) (h : x % 2 = 0) (hh : halve g x y = z) : ∃ g' : Nat, g = g' + 1 ∧ 0 < x / 2 ∧ x / 2 < 2 ^ g' ∧ halve g' (x / 2) (y + 1) = z := by
  cases g with
  | zero => simp at x1; omega
  | succ g =>
    refine ⟨g, rfl, by omega, ?_, ?_⟩
    · rw [Int.pow_succ] at x1
      generalize (2 : Int) ^ g = p at x1 ⊢
      omega
    · rw [← halve_even g x y h]; exact hh
/-- One doubling keeps what the doubling comes to. -/
theorem doubled {f : Nat} {x y : Int} {z : Int × Int} (x0 : 0 < x) (x1 : 8388608 ≤ x * 2 ^ f) (h : x < 8388608) (g : -149 < y) (hh : up f x y = z) : ∃ f' : Nat, 8388608 ≤ (x * 2) * 2 ^ f' ∧ up f' (x * 2) (y - 1) = z := by
  cases f with
  | zero => simp at x1; omega
  | succ f =>
    refine ⟨f, ?_, ?_⟩
    · rw [Int.pow_succ] at x1
      have : x * 2 * 2 ^ f = x * (2 ^ f * 2) := by rw [Int.mul_assoc, Int.mul_comm 2]
      omega
    · rw [Int.mul_comm x 2, ← up_step f x y ⟨h, g⟩]; exact hh

set_option maxHeartbeats 1000000 in
theorem fitted_any (m e : Int) (m0 : 0 < m) (m1 : m < 18446744073709551616) (e0 : -9223372036854775808 ≤ e) (e1 : e ≤ 9223372036854775807) (w : World) :
    Calls Try.prog 44 #[.int .u64 m, .int .i64 e] w fun x w' => x = .returned (.tuple #[.int .u64 (fitN (fitV m e)), .int .i64 (fitE (fitV m e)), .bool (fitV m e).isSome]) ∧ w' = w := by
  by_cases hg : 127 < e
  · go_enter Try.func44, Try.ntmps44
    go_wp2_with fail
    go_ret3
    exact ⟨ret_none (fit_great m0 (by simpa using m1) hg), rfl⟩
  · go_enter Try.func44, Try.ntmps44
    go_wp2_with fail
    go_loop [0, 1] (fun a b => ∃ (g : Nat) (x y : Int), a = .int .u64 x ∧ b = .int .i64 y ∧ 0 < x ∧ x < 2 ^ g ∧ x < 18446744073709551616 ∧ e ≤ y ∧ y + g ≤ 191 ∧ Hid (halve g x y = halve 64 m e)) (fun a _ => (intOf a).toNat)
    case atStart => exact ⟨64, m, e, rfl, rfl, m0, by simpa using m1, m1, by omega, by omega, rfl⟩
    case round =>
      obtain ⟨g, x, y, rfl, rfl, x0, x1, x2, y0, y1, hh⟩ := hrel
      have HX : Hid (x < 2 ^ g) := x1
      clear x1
      by_cases c : 16777216 ≤ x ∨ y < -149
      · have HC : Hid (16777216 ≤ x ∨ y < -149) := c
        by_cases d : x % 2 = 0
        · have b1 : (x % 2 != 0) = false := by simp [d]
          have HD : Hid (x % 2 = 0) := d
          clear d
          by_cases c1 : 16777216 ≤ x
          · clear c
            go_wp2_with fail
            obtain ⟨g', hg', p1, p2, p3⟩ := halved x0 HX.out HD.out hh.out
            go_round
            case rel => exact ⟨g', x / 2, y + 1, rfl, rfl, p1, p2, by omega, by omega, by omega, p3⟩
            case measure => simp [intOf]; omega
          · have c2 : y < -149 := by omega
            clear c
            go_wp2_with fail
            obtain ⟨g', hg', p1, p2, p3⟩ := halved x0 HX.out HD.out hh.out
            go_round
            case rel => exact ⟨g', x / 2, y + 1, rfl, rfl, p1, p2, by omega, by omega, by omega, p3⟩
            case measure => simp [intOf]; omega
        · have b1 : (x % 2 != 0) = true := by simp only [bne_iff_ne]; exact d
          by_cases c1 : 16777216 ≤ x
          · clear c
            go_wp2_with fail
            go_ret3
            exact ⟨ret_none (fit_odd hh.out d HC.out), rfl⟩
          · have c2 : y < -149 := by omega
            clear c
            go_wp2_with fail
            go_ret3
            exact ⟨ret_none (fit_odd hh.out d HC.out), rfl⟩
      · have c1 : x < 16777216 := by omega
        have c2 : -149 ≤ y := by omega
        clear c
        have HF : Hid (fitV m e = if 104 < (up 24 x y).2 then none else some (up 24 x y)) := fit_halved hh.out x0 HX.out c1 c2
        have HP : Hid (8388608 ≤ x * 2 ^ 24) := pow_24 x x0
        go_wp2_with fail
        go_loop [0, 1] (fun a b => ∃ (f : Nat) (p q : Int), a = .int .u64 p ∧ b = .int .i64 q ∧ 0 < p ∧ p < 16777216 ∧ -149 ≤ q ∧ q ≤ 191 ∧ Hid (8388608 ≤ p * 2 ^ f) ∧ Hid (up f p q = up 24 x y)) (fun _ b => (intOf b + 149).toNat)
        case atStart => exact ⟨24, x, y, rfl, rfl, x0, c1, c2, by omega, HP, rfl⟩
        case round =>
          obtain ⟨f, p, q, rfl, rfl, p0, p1, q0, q1, hf, hu⟩ := hrel
          by_cases d1 : p < 8388608
          · by_cases d2 : -149 < q
            · go_wp2_with fail
              obtain ⟨f', r1, r2⟩ := doubled p0 hf.out d1 d2 hu.out
              go_round
              case rel => exact ⟨f', p * 2, q - 1, rfl, rfl, by omega, by omega, by omega, by omega, r1, r2⟩
              case measure => simp [intOf]; omega
            · have HU : Hid (up 24 x y = (p, q)) := by rw [← hu.out]; exact up_stop f p q (by omega)
              go_wp2_with fail
              go_ret3
              exact ⟨ret_some (fit_at HF.out HU.out (by omega)), rfl⟩
          · have HU : Hid (up 24 x y = (p, q)) := by rw [← hu.out]; exact up_stop f p q (by omega)
            by_cases d3 : 104 < q
            · go_wp2_with fail
              go_ret3
              exact ⟨ret_none (by rw [HF.out, HU.out, if_pos d3]), rfl⟩
            · go_wp2_with fail
              go_ret3
              exact ⟨ret_some (fit_at HF.out HU.out (by omega)), rfl⟩

theorem or_join {x f : Int} (x0 : 0 ≤ x) (x1 : x ≤ 255) (f0 : 0 ≤ f) (f1 : f ≤ 8388607) : bits .or .u32 (x * 8388608) f = x * 8388608 + f := by go_bits2
theorem or_top {x : Int} (h0 : 0 ≤ x) (h1 : x < 2147483648) : bits .or .u32 x 2147483648 = x + 2147483648 := or_lo x h0 h1

/-- The sample of a sign, an exponent and a fraction. -/
def makeV (b : Bool) (x f : Int) : Int := (if b = true then 2147483648 else 0) + x * 8388608 + f
theorem makeV_bd {b : Bool} {x f : Int} (x0 : 0 ≤ x) (x1 : x ≤ 255) (f0 : 0 ≤ f) (f1 : f ≤ 8388607) : 0 ≤ makeV b x f ∧ makeV b x f ≤ 4294967295 := by
  unfold makeV; split <;> omega

set_option maxHeartbeats 400000 in
theorem sample_any (b : Bool) (x f : Int) (x0 : 0 ≤ x) (x1 : x ≤ 255) (f0 : 0 ≤ f) (f1 : f ≤ 8388607) (w : World) :
    Calls Try.prog 46 #[.agg #[.bool b, .int .u32 x, .int .u32 f]] w fun e w' => e = .returned (.int .u32 (makeV b x f)) ∧ Q w w' := by
  have j1 := or_join x0 x1 f0 f1
  have j2 := or_top (x := x * 8388608 + f) (by omega) (by omega)
  cases b
  · go_enter Try.func46, Try.ntmps46
    go_wp2_with fail
    go_ret
    exact ⟨ret_int (by unfold makeV; rw [if_neg (by decide)]; omega), (Q.refl w).cells _ _⟩
  · go_enter Try.func46, Try.ntmps46
    go_wp2_with fail
    go_ret
    exact ⟨ret_int (by unfold makeV; rw [if_pos rfl]; omega), (Q.refl w).cells _ _⟩

theorem sampleV_lo {b : Bool} {m e : Int} (h : m < 8388608) : makeV b 0 m = sampleV b m e := by
  unfold makeV sampleV; rw [if_pos h]; omega
theorem sampleV_hi {b : Bool} {m e : Int} (h : 8388608 ≤ m) : makeV b (e + 150) (m - 8388608) = sampleV b m e := by
  unfold makeV sampleV; rw [if_neg (show ¬ m < 8388608 by omega)]; omega
theorem fpV_0 {n e : Int} (h : n = 0) : fpV n e = 0 := by unfold fpV; rw [if_pos h]
theorem fpB_0 {n e : Int} (h : n = 0) : fpB n e = true := by unfold fpB; rw [if_pos h]
theorem fpV_none {n e : Int} (h : ¬ n = 0) (g : fitV n.natAbs e = none) : fpV n e = 0 := by unfold fpV; rw [if_neg h, g]
theorem fpB_none {n e : Int} (h : ¬ n = 0) (g : fitV n.natAbs e = none) : fpB n e = false := by unfold fpB; rw [if_neg h, g]; rfl
theorem fpV_some {n e m x : Int} (h : ¬ n = 0) (g : fitV n.natAbs e = some (m, x)) : fpV n e = sampleV (decide (n < 0)) m x := by unfold fpV; rw [if_neg h, g]
theorem fpB_some {n e m x : Int} (h : ¬ n = 0) (g : fitV n.natAbs e = some (m, x)) : fpB n e = true := by unfold fpB; rw [if_neg h, g]; rfl

set_option maxHeartbeats 1000000 in
theorem from_any (n e : Int) (n0 : -9223372036854775808 ≤ n) (n1 : n ≤ 9223372036854775807) (e0 : -9223372036854775808 ≤ e) (e1 : e ≤ 9223372036854775807) (w : World) :
    Calls Try.prog 12 #[.int .i64 n, .int .i64 e] w fun x w' => x = .returned (.tuple #[.int .u32 (fpV n e), .bool (fpB n e)]) ∧ Q w w' := by
  by_cases hn : n = 0
  · have b1 : (n == 0) = true := beq_iff_eq.2 hn
    have HN : Hid (n = 0) := hn
    clear hn
    go_enter Try.func12, Try.ntmps12
    go_wp2_with fail
    go_ret2
    exact ⟨ret_ib (fpV_0 HN.out).symm (fpB_0 HN.out).symm, Q.refl _⟩
  · have b1 : (n == 0) = false := beq_eq_false_iff_ne.2 hn
    cases hf : fitV n.natAbs e with
    | none =>
      have HF : Hid (fitV n.natAbs e = none) := hf
      clear hf
      go_enter Try.func12, Try.ntmps12
      go_wp2_with fail
      refine (size_any n n0 n1 _).mono ?_
      rintro x w' ⟨rfl, rfl⟩
      go_wp2_with fail
      refine (fitted_any n.natAbs e (by omega) (by omega) e0 e1 _).mono ?_
      rintro x w' ⟨rfl, rfl⟩
      rw [HF.out]
      simp only [fitN, fitE, Option.isSome]
      go_wp2_with fail
      go_ret2
      exact ⟨ret_ib (fpV_none hn HF.out).symm (fpB_none hn HF.out).symm, Q.refl _⟩
    | some y =>
      obtain ⟨m, x⟩ := y
      have HF : Hid (fitV n.natAbs e = some (m, x)) := hf
      clear hf
      obtain ⟨m0, m1, x0, x1, hx⟩ := fitV_bd (by omega) (by omega) HF.out
      by_cases hm : m < 8388608
      · go_enter Try.func12, Try.ntmps12
        go_wp2_with fail
        refine (size_any n n0 n1 _).mono ?_
        rintro x w' ⟨rfl, rfl⟩
        go_wp2_with fail
        refine (fitted_any n.natAbs e (by omega) (by omega) e0 e1 _).mono ?_
        rintro x w' ⟨rfl, rfl⟩
        rw [HF.out]
        simp only [fitN, fitE, Option.isSome]
        go_wp2_with fail
        refine (sample_any (decide (n < 0)) 0 m (by omega) (by omega) (by omega) (by omega) _).mono ?_
        rintro v w2 ⟨rfl, q2⟩
        go_wp2_with fail
        go_ret2
        exact ⟨ret_ib ((sampleV_lo hm).trans (fpV_some hn HF.out).symm) (fpB_some hn HF.out).symm, ((Q.refl _).cells _ _).trans q2⟩
      · go_enter Try.func12, Try.ntmps12
        go_wp2_with fail
        refine (size_any n n0 n1 _).mono ?_
        rintro x w' ⟨rfl, rfl⟩
        go_wp2_with fail
        refine (fitted_any n.natAbs e (by omega) (by omega) e0 e1 _).mono ?_
        rintro x w' ⟨rfl, rfl⟩
        rw [HF.out]
        simp only [fitN, fitE, Option.isSome]
        go_wp2_with fail
        refine (sample_any (decide (n < 0)) (x + 149 + 1) (m - 8388608) (by omega) (by omega) (by omega) (by omega) _).mono ?_
        rintro v w2 ⟨rfl, q2⟩
        go_wp2_with fail
        go_ret2
        exact ⟨ret_ib (by rw [fpV_some hn HF.out, ← sampleV_hi (by omega), show x + 149 + 1 = x + 150 by omega]) (fpB_some hn HF.out).symm, ((Q.refl _).cells _ _).trans q2⟩

/-- A power above 127 on the way fits nothing. -/
theorem fit_far {m0 e0 x y : Int} {g : Nat} (hh : halve g x y = halve 64 m0 e0) (h0 : 0 < x) (h1 : x < 2 ^ g) (h : 127 < y) : fitV m0 e0 = none := by
  obtain ⟨o, k, e1, _, _, _⟩ := halve_spec g x y h0 h1
  unfold fitV
  rw [← hh, e1, if_pos]
  exact Or.inr (Or.inr (by show 127 < y + (k : Int); omega))
/-- The document's doubling begins at the odd number. -/
theorem fit_ref {m0 e0 x y : Int} {g : Nat} (hh : halve g x y = halve 64 m0 e0) (ho : x % 2 ≠ 0) (c : ¬ (16777216 ≤ x ∨ y < -149 ∨ 127 < y)) : fitV m0 e0 = if 104 < (up 24 x y).2 then none else some (up 24 x y) := by
  rw [halve_odd g x y ho] at hh
  unfold fitV
  rw [← hh, if_neg (by simpa using c)]
theorem tmod_neg {v : Int} (h : v < 0) : v.tmod 2 = -((-v) % 2) := by
  have : v = -(-v) := by omega
  rw [this, Int.neg_tmod, Int.tmod_eq_emod_of_nonneg (by omega)]; simp
theorem tdiv_neg {v : Int} (h : v < 0) : v.tdiv 2 = -((-v) / 2) := by
  have : v = -(-v) := by omega
  rw [this, Int.neg_tdiv, Int.tdiv_eq_ediv_of_nonneg (by omega)]; simp
theorem shl_23 {x : Int} (h0 : 0 ≤ x) (h1 : x ≤ 255) : wrap64 (x * 8388608) = x * 8388608 := by unfold wrap64; omega

set_option maxHeartbeats 1000000 in
theorem rfrom_pos (n e : Int) (n0 : 0 < n) (n1 : n ≤ 9223372036854775807) (e0 : -9223372036854775808 ≤ e) (e1 : e ≤ 9223372036854775807) (w : World) :
    Calls Try.prog 13 #[.int .i64 n, .int .i64 e] w fun x w' => x = .returned (.tuple #[.int .u32 (fpV n e), .bool (fpB n e)]) ∧ w' = w := by
  have b1 : (n == 0) = false := beq_eq_false_iff_ne.2 (by omega)
  have HZ : Hid ((n.natAbs : Int) = n) := (show (n.natAbs : Int) = n by omega)
  have hn : ¬ n = 0 := by omega
  have HS : Hid (decide (n < 0) = false) := decide_eq_false (by omega)
  go_enter Try.func13, Try.ntmps13
  go_wp2_with fail
  go_loop [0, 1] (fun a b => ∃ (g : Nat) (x y : Int), a = .int .i64 x ∧ b = .int .i64 y ∧ 0 < x ∧ x ≤ 9223372036854775807 ∧ Hid (x < 2 ^ g) ∧ e ≤ y ∧ y ≤ 9223372036854775807 ∧ Hid (halve g x y = halve 64 (n.natAbs : Int) e)) (fun a _ => (intOf a).toNat)
  case atStart => exact ⟨64, n.natAbs, e, by rw [HZ.out], rfl, by omega, by omega, (show (n.natAbs : Int) < 2 ^ 64 by omega), by omega, e1, rfl⟩
  case round =>
    obtain ⟨g, x, y, rfl, rfl, x0, x2, x1, y0, y1, hh⟩ := hrel
    by_cases d : x % 2 = 0
    · have HD : Hid (x % 2 = 0) := d
      have b2 : (x % 2 == 0) = true := by simp [d]
      clear d
      by_cases c : y = 9223372036854775807
      · have b3 : (y == 9223372036854775807) = true := beq_iff_eq.2 c
        have HF : Hid (fitV n.natAbs e = none) := fit_far hh.out x0 x1.out (by omega)
        have HC : Hid (y = 9223372036854775807) := c
        clear c
        go_wp2_with fail
        go_ret2
        exact ⟨ret_ib (fpV_none hn HF.out).symm (fpB_none hn HF.out).symm, rfl⟩
      · have b3 : (y == 9223372036854775807) = false := beq_eq_false_iff_ne.2 c
        go_wp2_with fail
        obtain ⟨g', hg', p1, p2, p3⟩ := halved x0 x1.out HD.out hh.out
        go_round
        case rel => exact ⟨g', x / 2, y + 1, rfl, rfl, p1, by omega, p2, by omega, by omega, p3⟩
        case measure => simp [intOf]; omega
    · have HO : Hid (x % 2 ≠ 0) := d
      have b2 : (x % 2 == 0) = false := beq_eq_false_iff_ne.2 d
      clear d
      by_cases c1 : 16777216 ≤ x
      · have HF : Hid (fitV n.natAbs e = none) := fit_odd hh.out HO.out (Or.inl c1)
        go_wp2_with fail
        go_ret2
        exact ⟨ret_ib (fpV_none hn HF.out).symm (fpB_none hn HF.out).symm, rfl⟩
      by_cases c2 : y < -149
      · have HF : Hid (fitV n.natAbs e = none) := fit_odd hh.out HO.out (Or.inr c2)
        go_wp2_with fail
        go_ret2
        exact ⟨ret_ib (fpV_none hn HF.out).symm (fpB_none hn HF.out).symm, rfl⟩
      by_cases c3 : 127 < y
      · have HF : Hid (fitV n.natAbs e = none) := fit_far hh.out x0 x1.out c3
        go_wp2_with fail
        go_ret2
        exact ⟨ret_ib (fpV_none hn HF.out).symm (fpB_none hn HF.out).symm, rfl⟩
      have HF : Hid (fitV n.natAbs e = if 104 < (up 24 x y).2 then none else some (up 24 x y)) := fit_ref hh.out HO.out (by omega)
      have HP : Hid (8388608 ≤ x * 2 ^ 24) := pow_24 x x0
      go_wp2_with fail
      go_loop [0, 1] (fun a b => ∃ (f : Nat) (p q : Int), a = .int .i64 p ∧ b = .int .i64 q ∧ 0 < p ∧ p < 16777216 ∧ -149 ≤ q ∧ q ≤ 127 ∧ Hid (8388608 ≤ p * 2 ^ f) ∧ Hid (up f p q = up 24 x y)) (fun _ b => (intOf b + 149).toNat)
      case atStart => exact ⟨24, x, y, rfl, rfl, x0, by omega, by omega, by omega, HP, rfl⟩
      case round =>
        obtain ⟨f, p, q, rfl, rfl, p0, p1, q0, q1, hf, hu⟩ := hrel
        by_cases d1 : p < 8388608
        · by_cases d2 : -149 < q
          · go_wp2_with fail
            obtain ⟨f', r1, r2⟩ := doubled p0 hf.out d1 d2 hu.out
            go_round
            case rel => exact ⟨f', p * 2, q - 1, by rw [Int.mul_comm p 2], rfl, by omega, by omega, by omega, by omega, r1, r2⟩
            case measure => simp [intOf]; omega
          · have HU : Hid (up 24 x y = (p, q)) := by rw [← hu.out]; exact up_stop f p q (by omega)
            have HG : Hid (fitV n.natAbs e = some (p, q)) := fit_at HF.out HU.out (by omega)
            go_wp2_with fail
            go_ret2
            exact ⟨ret_ib (by rw [fpV_some hn HG.out, HS.out, ← sampleV_lo d1]; unfold makeV; rw [if_neg (by decide)]; omega) (fpB_some hn HG.out).symm, rfl⟩
        · have HU : Hid (up 24 x y = (p, q)) := by rw [← hu.out]; exact up_stop f p q (by omega)
          by_cases d3 : 104 < q
          · have HG : Hid (fitV n.natAbs e = none) := (show fitV n.natAbs e = none by rw [HF.out, HU.out, if_pos d3])
            go_wp2_with fail
            go_ret2
            exact ⟨ret_ib (fpV_none hn HG.out).symm (fpB_none hn HG.out).symm, rfl⟩
          · have HG : Hid (fitV n.natAbs e = some (p, q)) := fit_at HF.out HU.out (by omega)
            go_wp2_with fail
            go_ret2
            exact ⟨ret_ib (by rw [fpV_some hn HG.out, HS.out, ← sampleV_hi (by omega)]; unfold makeV; rw [if_neg (by decide)]; omega) (fpB_some hn HG.out).symm, rfl⟩

set_option maxHeartbeats 1000000 in
theorem rfrom_neg (n e : Int) (n0 : -9223372036854775808 ≤ n) (n1 : n < 0) (e0 : -9223372036854775808 ≤ e) (e1 : e ≤ 9223372036854775807) (w : World) :
    Calls Try.prog 13 #[.int .i64 n, .int .i64 e] w fun x w' => x = .returned (.tuple #[.int .u32 (fpV n e), .bool (fpB n e)]) ∧ w' = w := by
  have b1 : (n == 0) = false := beq_eq_false_iff_ne.2 (by omega)
  have HZ : Hid ((n.natAbs : Int) = (-n)) := (show (n.natAbs : Int) = (-n) by omega)
  have hn : ¬ n = 0 := by omega
  have HS : Hid (decide (n < 0) = true) := decide_eq_true n1
  go_enter Try.func13, Try.ntmps13
  go_wp2_with fail
  go_loop [0, 1] (fun a b => ∃ (g : Nat) (v y : Int), a = .int .i64 v ∧ b = .int .i64 y ∧ v < 0 ∧ -9223372036854775808 ≤ v ∧ Hid (-v < 2 ^ g) ∧ e ≤ y ∧ y ≤ 9223372036854775807 ∧ Hid (halve g (-v) y = halve 64 (n.natAbs : Int) e)) (fun a _ => (-intOf a).toNat)
  case atStart => exact ⟨64, n, e, rfl, rfl, n1, n0, (show -n < 2 ^ 64 by omega), by omega, e1, (show halve 64 (-n) e = halve 64 (n.natAbs : Int) e by rw [HZ.out])⟩
  case round =>
    obtain ⟨g, v, y, rfl, rfl, v0, v2, x1, y0, y1, hh⟩ := hrel
    have x0 : 0 < -v := by omega
    by_cases d : (-v) % 2 = 0
    · have HD : Hid ((-v) % 2 = 0) := d
      have b2 : (v.tmod 2 == 0) = true := by rw [beq_iff_eq, tmod_neg v0]; omega
      clear d
      by_cases c : y = 9223372036854775807
      · have b3 : (y == 9223372036854775807) = true := beq_iff_eq.2 c
        have HF : Hid (fitV n.natAbs e = none) := fit_far hh.out x0 x1.out (by omega)
        have HC : Hid (y = 9223372036854775807) := c
        clear c
        go_wp2_with fail
        go_ret2
        exact ⟨ret_ib (fpV_none hn HF.out).symm (fpB_none hn HF.out).symm, rfl⟩
      · have b3 : (y == 9223372036854775807) = false := beq_eq_false_iff_ne.2 c
        go_wp2_with fail
        obtain ⟨g', hg', p1, p2, p3⟩ := halved x0 x1.out HD.out hh.out
        go_round
        case rel => exact ⟨g', -(-v / 2), y + 1, by rw [tdiv_neg v0], rfl, by omega, by omega, (show -(-(-v / 2)) < 2 ^ g' by rw [Int.neg_neg]; exact p2), by omega, by omega, (show halve g' (-(-(-v / 2))) (y + 1) = halve 64 (n.natAbs : Int) e by rw [Int.neg_neg]; exact p3)⟩
        case measure => simp [intOf]; rw [tdiv_neg v0]; omega
    · have HO : Hid ((-v) % 2 ≠ 0) := d
      have b2 : (v.tmod 2 == 0) = false := by rw [beq_eq_false_iff_ne, tmod_neg v0]; omega
      have x3 : -v ≤ 9223372036854775807 := by omega
      clear d
      by_cases c1 : 16777216 ≤ -v
      · have HF : Hid (fitV n.natAbs e = none) := fit_odd hh.out HO.out (Or.inl c1)
        go_wp2_with fail
        go_ret2
        exact ⟨ret_ib (fpV_none hn HF.out).symm (fpB_none hn HF.out).symm, rfl⟩
      by_cases c2 : y < -149
      · have HF : Hid (fitV n.natAbs e = none) := fit_odd hh.out HO.out (Or.inr c2)
        go_wp2_with fail
        go_ret2
        exact ⟨ret_ib (fpV_none hn HF.out).symm (fpB_none hn HF.out).symm, rfl⟩
      by_cases c3 : 127 < y
      · have HF : Hid (fitV n.natAbs e = none) := fit_far hh.out x0 x1.out c3
        go_wp2_with fail
        go_ret2
        exact ⟨ret_ib (fpV_none hn HF.out).symm (fpB_none hn HF.out).symm, rfl⟩
      have HF : Hid (fitV n.natAbs e = if 104 < (up 24 (-v) y).2 then none else some (up 24 (-v) y)) := fit_ref hh.out HO.out (by omega)
      have HP : Hid (8388608 ≤ -v * 2 ^ 24) := pow_24 (-v) x0
      go_wp2_with fail
      go_loop [0, 1] (fun a b => ∃ (f : Nat) (p q : Int), a = .int .i64 p ∧ b = .int .i64 q ∧ 0 < p ∧ p < 16777216 ∧ -149 ≤ q ∧ q ≤ 127 ∧ Hid (8388608 ≤ p * 2 ^ f) ∧ Hid (up f p q = up 24 (-v) y)) (fun _ b => (intOf b + 149).toNat)
      case atStart => exact ⟨24, -v, y, rfl, rfl, x0, by omega, by omega, by omega, HP, rfl⟩
      case round =>
        obtain ⟨f, p, q, rfl, rfl, p0, p1, q0, q1, hf, hu⟩ := hrel
        by_cases d1 : p < 8388608
        · by_cases d2 : -149 < q
          · go_wp2_with fail
            obtain ⟨f', r1, r2⟩ := doubled p0 hf.out d1 d2 hu.out
            go_round
            case rel => exact ⟨f', p * 2, q - 1, by rw [Int.mul_comm p 2], rfl, by omega, by omega, by omega, by omega, r1, r2⟩
            case measure => simp [intOf]; omega
          · have HU : Hid (up 24 (-v) y = (p, q)) := by rw [← hu.out]; exact up_stop f p q (by omega)
            have HG : Hid (fitV n.natAbs e = some (p, q)) := fit_at HF.out HU.out (by omega)
            go_wp2_with fail
            go_ret2
            exact ⟨ret_ib (by rw [fpV_some hn HG.out, HS.out, ← sampleV_lo d1]; unfold makeV; rw [if_pos rfl]; omega) (fpB_some hn HG.out).symm, rfl⟩
        · have HU : Hid (up 24 (-v) y = (p, q)) := by rw [← hu.out]; exact up_stop f p q (by omega)
          by_cases d3 : 104 < q
          · have HG : Hid (fitV n.natAbs e = none) := (show fitV n.natAbs e = none by rw [HF.out, HU.out, if_pos d3])
            go_wp2_with fail
            go_ret2
            exact ⟨ret_ib (fpV_none hn HG.out).symm (fpB_none hn HG.out).symm, rfl⟩
          · have HG : Hid (fitV n.natAbs e = some (p, q)) := fit_at HF.out HU.out (by omega)
            go_wp2_with fail
            go_ret2
            exact ⟨ret_ib (by rw [fpV_some hn HG.out, HS.out, ← sampleV_hi (by omega)]; unfold makeV; rw [if_pos rfl]; omega) (fpB_some hn HG.out).symm, rfl⟩

set_option maxHeartbeats 400000 in
theorem rfrom_any (n e : Int) (n0 : -9223372036854775808 ≤ n) (n1 : n ≤ 9223372036854775807) (e0 : -9223372036854775808 ≤ e) (e1 : e ≤ 9223372036854775807) (w : World) :
    Calls Try.prog 13 #[.int .i64 n, .int .i64 e] w fun x w' => x = .returned (.tuple #[.int .u32 (fpV n e), .bool (fpB n e)]) ∧ w' = w := by
  by_cases h : n < 0
  · exact rfrom_neg n e n0 h e0 e1 w
  by_cases hn : n = 0
  · have b1 : (n == 0) = true := beq_iff_eq.2 hn
    have HN : Hid (n = 0) := hn
    clear hn
    go_enter Try.func13, Try.ntmps13
    go_wp2_with fail
    go_ret2
    exact ⟨ret_ib (fpV_0 HN.out).symm (fpB_0 HN.out).symm, rfl⟩
  · exact rfrom_pos n e (by omega) n1 e0 e1 w
end Go.Proofs.Ytemfgmnindikfaa
