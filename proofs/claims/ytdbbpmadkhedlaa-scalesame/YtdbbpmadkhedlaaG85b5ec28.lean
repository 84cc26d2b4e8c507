/- Sums of products with weights: the program's. -/
import Derived.Test.YtdbbpmadkhedlaaG306dedeb
namespace Go.Proofs.Ytdbbpmadkhedlaa
open Go.RowKit
set_option linter.unusedVariables false
set_option linter.unusedSimpArgs false

theorem sum64_nan2 {d' : Ieee.Datum} (h : d'.isNaN = true) (d : Ieee.Datum) : told64 (d.sum d') = 9221120237041090560 := by
  obtain ⟨s, t, rfl⟩ := isNaN_cases h
  cases d <;> rfl
theorem can_sum_r (W X : Nat) : add64V W (canW X) = add64V W X := by
  unfold canW
  cases h : nan64 X
  · rfl
  · rw [if_pos rfl]
    unfold add64V
    rw [sum64_nan2 (read64_nan h), sum64_nan2 (read64_nan made64)]
/-- The products of weights and samples. -/
def prods (W : List Int) (S : List Nat) : List Nat := (List.range S.length).map fun i => prodV (W.getD i 0) (S.getD i 0)
theorem prods_length (W : List Int) (S : List Nat) : (prods W S).length = S.length := by unfold prods; simp
theorem prods_at (W : List Int) (S : List Nat) {i : Nat} (h : i < S.length) : (prods W S).getD i 0 = prodV (W.getD i 0) (S.getD i 0) := by
  unfold prods
  rw [List.getD_eq_getElem?_getD, List.getElem?_map, List.getElem?_range h]
  rfl
set_option maxHeartbeats 4000000 in
set_option maxRecDepth 100000 in
theorem dot_gen (vw vl : Value) (W : List Int) (S : List Nat) (w : World) (hw : ISl w vw W) (hl : USl w vl S) (hn : S.length ≤ 35184372087808) (he : W.length = S.length) (hb : ∀ i, S.getD i 0 < 4294967296)
    (hW : ∀ i, i < W.length → W.getD i 0 ≤ 268435456 ∧ -268435456 ≤ W.getD i 0) :
    Calls Try.prog 63 #[vw, vl] w fun e w' => ∃ X : Nat, e = .returned (.tuple #[.float .f64 X, .int .i64 0]) ∧ X < 18446744073709551616 ∧ canW X = dotF (prods W S) ∧ Q w w' := by
  obtain ⟨Ps, hPs⟩ : ∃ Ps, prods W S = Ps := ⟨_, rfl⟩
  have hP : Ps.length = S.length := by rw [← hPs]; exact prods_length W S
  have hp : ∀ i, i < S.length → Ps.getD i 0 = prodV (W.getD i 0) (S.getD i 0) := fun i hi => by rw [← hPs]; exact prods_at W S hi
  rw [hPs]
  clear hPs
  obtain ⟨aw, cw, rfl⟩ := hw.form
  obtain ⟨al, cl, rfl⟩ := hl.form
  have hn' : W.length ≤ 35184372087808 := by rw [he]; exact hn
  have ne0 : ((W.length : Int) != (S.length : Int)) = false := by rw [he]; simp
  have HS : Hid (USl w (.slice al S.length cl) S) := hl
  have HI : Hid (ISl w (.slice aw W.length cw) W) := hw
  have HB : Hid (∀ i, S.getD i 0 < 4294967296) := hb
  have HW : Hid _ := hW
  have HP : Hid _ := hp
  have HE : Hid (W.length = S.length) := he
  have HL : Hid (Ps.length = S.length) := hP
  clear hl hw hb hW hp he hP
  go_enter Try.func63, Try.ntmps63
  go_wp2_with fail
  go_loopg [19] (W.length) (fun gh s19 wr => ∃ i : Nat, s19 = .int .i64 (i : Int) ∧ i ≤ W.length ∧ gh = W.length - i ∧ wr = w)
  case atStart => exact ⟨0, rfl, by omega, rfl, rfl⟩
  case round =>
    obtain ⟨i, rfl, hi, rfl, rfl⟩ := hrel
    by_cases hlt : i < W.length
    · obtain ⟨g, o, cap', hsl, hI⟩ := HI.out.some (by omega)
      injection hsl with hs1 hs2 hs3
      subst hs1 hs3
      clear hs2
      have hc := hI i hlt
      obtain ⟨h1, h2⟩ := HW.out i hlt
      have h1' : ¬ 268435456 < W.getD i 0 := by omega
      have h2' : ¬ W.getD i 0 < -268435456 := by omega
      generalize W.getD i 0 = x at *
      clear hI h1 h2
      go_wp2_with fail
      go_roundg (W.length - (i + 1))
      case measure => go_light; omega
      case rel => go_light; exact ⟨i + 1, by simp, by omega, rfl, rfl⟩
    · obtain rfl : i = W.length := by omega
      have hge : ¬ (W.length : Int) < (W.length : Int) := by omega
      by_cases h0 : S.length = 0
      · have b0 : ((S.length : Int) == 0) = true := by rw [h0]; rfl
        have HF : Hid (dotF Ps = 0) := by
          show dotF Ps = 0
          rw [List.eq_nil_of_length_eq_zero (HL.out.trans h0)]; rfl
        clear h0
        go_wp2_with fail
        go_ret2
        exact ⟨0, rfl, by decide, by rw [HF.out]; decide +kernel, Q.refl _⟩
      · have b0 : ((S.length : Int) == 0) = false := by rw [beq_eq_false_iff_ne]; omega
        have HF : Hid (dotF Ps = Ps.foldl add64V 9223372036854775808) := by
          show dotF Ps = _
          unfold dotF
          rw [if_neg (fun e => h0 (by rw [← HL.out, e]; rfl))]
        clear h0
        go_wp2_with fail
        refine (copysign_any _).mono ?_
        rintro e w0 ⟨rfl, rfl⟩
        go_wp2_with fail
        go_loopg [8, 36] (S.length) (fun gh s8 s36 wr => ∃ i X : Nat, s8 = .float .f64 X ∧ Hid (canW X = (Ps.take i).foldl add64V 9223372036854775808) ∧ X < 18446744073709551616 ∧ s36 = .int .i64 (i : Int) ∧ i ≤ S.length ∧ gh = S.length - i ∧ Q w0 wr)
        case atStart => exact ⟨0, 9223372036854775808, rfl, (show canW 9223372036854775808 = 9223372036854775808 by decide +kernel), by decide, rfl, by omega, rfl, Q.refl _⟩
        case round =>
          obtain ⟨i, X, rfl, HX, hX, rfl, hi2, rfl, qr⟩ := hrel
          by_cases hlt : i < S.length
          · obtain ⟨g, o, cap', hsl, hcap, hI⟩ := HS.out.some (by omega)
            injection hsl with hs1 hs2 hs3
            subst hs1 hs3
            clear hs2
            have hwi : i < W.length := by rw [HE.out]; exact hlt
            have hwi' : (i : Int) < (W.length : Int) := by omega
            obtain ⟨g2, o2, cap2, hsl2, hI2⟩ := HI.out.some (by omega)
            injection hsl2 with hs1 hs2 hs3
            subst hs1 hs3
            clear hs2
            have hc := qr.cell (hI i hlt)
            have hc2 := qr.cell (hI2 i hwi)
            have hx := HB.out i
            have hpi := HP.out i hlt
            have HFo : Hid ((Ps.take (i + 1)).foldl add64V 9223372036854775808 = add64V ((Ps.take i).foldl add64V 9223372036854775808) (Ps.getD i 0)) := take_succ_foldl _ _ _ _ (by rw [HL.out]; exact hlt)
            have HQ : Hid (Q w0 wr) := qr
            generalize S.getD i 0 = x at *
            generalize W.getD i 0 = y at *
            generalize Ps.getD i 0 = p at *
            have hpi : p = prodV y x := hpi
            subst hpi
            have HC : Hid (∀ P X', canW P = prodV y x → canW X' = add64V X P → canW X' = (Ps.take (i + 1)).foldl add64V 9223372036854775808) := fun P X' hP h => by rw [HFo.out, ← HX.out, can_sum, ← hP, can_sum_r]; exact h
            clear qr HFo HX hI hI2
            go_wp2_with fail
            refine regionD5 (gb := g2) (ob := o2) (ib := i) (Lw := W.length) (cap := cw) (y := y) (s := x) rfl rfl ⟨rfl, rfl, rfl, hwi, hc2, hx⟩ ?_
            intro w4 p hq4 hp64 hcP
            rw [normD5]
            have HCP : Hid (canW p = prodV y x) := hcP
            clear hcP hc hc2
            cases hd : (Ieee.double.read X).sum (Ieee.double.read p) with
            | none =>
              have hf : floatBits .add .f64 X p = none := by
                show ((Ieee.double.read X).sum (Ieee.double.read p)).map Ieee.double.write = none
                rw [hd]; rfl
              have l2 := fun w => run_arith_none .add (by simp) 100 .f64 X p hf Try.prog w
              have HE2 : Hid (add64V X p = 9221120237041090560) := by show add64V X p = _; unfold add64V; rw [hd]; rfl
              clear hd hf
              go_wp2_with fail
              go_roundg (S.length - (i + 1))
              case measure => go_light; omega
              case rel =>
                go_light
                exact ⟨i + 1, _, rfl, HC.out _ _ HCP.out (by rw [HE2.out]; exact can_none _ _ _), (nanw64 _ _ _).2, by simp, by omega, rfl, (HQ.out.trans hq4).drew⟩
            | some d =>
              have hf : floatBits .add .f64 X p = some (Ieee.double.write d) := by
                show ((Ieee.double.read X).sum (Ieee.double.read p)).map Ieee.double.write = _
                rw [hd]; rfl
              have l2 := fun w => run_float_arith (P := Try.prog) w .add 100 .f64 X p _ hf
              have HE2 : Hid (add64V X p = told64 (some d)) := by show add64V X p = _; unfold add64V; rw [hd]
              have HD : Hid (d.isNaN = false) := sum_num hd
              clear hd hf
              go_wp2_with fail
              go_roundg (S.length - (i + 1))
              case measure => go_light; omega
              case rel =>
                go_light
                exact ⟨i + 1, _, rfl, HC.out _ _ HCP.out (by rw [HE2.out]; exact can_some HD.out), write64_lt _, by simp, by omega, rfl, HQ.out.trans hq4⟩
          · obtain rfl : i = S.length := by omega
            have hge2 : ¬ (S.length : Int) < (S.length : Int) := by omega
            have HQ : Hid (Q w0 wr) := qr
            have HZ : Hid (canW X = dotF Ps) := by
              show canW X = dotF Ps
              rw [HF.out, HX.out, ← HL.out, List.take_of_length_le (Nat.le_refl _)]
            clear qr HX
            go_wp2_with fail
            go_ret2
            exact ⟨X, rfl, hX, HZ.out, HQ.out⟩
set_option maxHeartbeats 2000000 in
theorem dot_bad (vw vl : Value) (W : List Int) (S : List Nat) (w : World) (hw : ISl w vw W) (hl : USl w vl S) (hn : S.length ≤ 35184372087808) (he : W.length = S.length) (hW : ¬ ∀ i, i < W.length → W.getD i 0 ≤ 268435456 ∧ -268435456 ≤ W.getD i 0) :
    Calls Try.prog 63 #[vw, vl] w fun e w' => e = .returned (.tuple #[.float .f64 0, .int .i64 32]) ∧ w' = w := by
  obtain ⟨aw, cw, rfl⟩ := hw.form
  obtain ⟨al, cl, rfl⟩ := hl.form
  have hn' : W.length ≤ 35184372087808 := by rw [he]; exact hn
  have ne0 : ((W.length : Int) != (S.length : Int)) = false := by rw [he]; simp
  have HI : Hid (ISl w (.slice aw W.length cw) W) := hw
  have HW : Hid _ := hW
  clear hl hw hW he
  go_enter Try.func63, Try.ntmps63
  go_wp2_with fail
  go_loopg [19] (W.length) (fun gh s19 wr => ∃ i : Nat, s19 = .int .i64 (i : Int) ∧ i ≤ W.length ∧ gh = W.length - i ∧ Hid (∀ j, j < i → W.getD j 0 ≤ 268435456 ∧ -268435456 ≤ W.getD j 0) ∧ wr = w)
  case atStart => exact ⟨0, rfl, by omega, rfl, fun j hj => absurd hj (Nat.not_lt_zero _), rfl⟩
  case round =>
    obtain ⟨i, rfl, hi, rfl, HG, rfl⟩ := hrel
    by_cases hlt : i < W.length
    · obtain ⟨g, o, cap', hsl, hI⟩ := HI.out.some (by omega)
      injection hsl with hs1 hs2 hs3
      subst hs1 hs3
      clear hs2
      have hc := hI i hlt
      obtain ⟨x, hx⟩ : ∃ x, W.getD i 0 = x := ⟨_, rfl⟩
      rw [hx] at hc
      have HX : Hid (W.getD i 0 = x) := hx
      clear hI hx
      by_cases h1 : 268435456 < x
      · go_wp2_with fail
        go_ret2
        exact ⟨rfl, rfl⟩
      · by_cases h2 : x < -268435456
        · go_wp2_with fail
          go_ret2
          exact ⟨rfl, rfl⟩
        · go_wp2_with fail
          go_roundg (W.length - (i + 1))
          case measure => go_light; omega
          case rel =>
            go_light
            refine ⟨i + 1, by simp, by omega, rfl, fun j hj => ?_, rfl⟩
            rcases Nat.lt_or_ge j i with g' | g'
            · exact HG.out j g'
            · obtain rfl : j = i := by omega
              rw [HX.out]
              omega
    · exfalso
      exact HW.out (fun j hj => HG.out j (by omega))
set_option maxHeartbeats 1000000 in
theorem dot_err {vw vl : Value} {w : World} {E : Int} (hE : (E != 0) = true) (H : Calls Try.prog 63 #[vw, vl] w fun e w' => e = .returned (.tuple #[.float .f64 0, .int .i64 E]) ∧ w' = w) :
    Calls Try.prog 59 #[vw, vl] w fun e w' => e = .returned (.tuple #[.int .u32 0, .int .i64 E]) ∧ w' = w := by
  have HD : Hid _ := H
  clear H
  go_enter Try.func59, Try.ntmps59
  go_wp2_with fail
  refine Calls.mono HD.out ?_
  rintro e w1 ⟨rfl, rfl⟩
  go_wp2_with fail
  go_ret2
  exact ⟨rfl, rfl⟩
end Go.Proofs.Ytdbbpmadkhedlaa
/- What package arith's Fma returns, by its steps in binary64, in the model's own words of floats; what was in memory stays as it was. -/
namespace Go.Proofs.Ytdbbpmadkhedlaa
open Go.RowKit

theorem sum_nan1 {a : Ieee.Datum} (h : a.isNaN = true) (b : Ieee.Datum) : a.sum b = none := by
  obtain ⟨s, t, rfl⟩ := isNaN_cases h; cases b <;> rfl
theorem sum_nan2 {b : Ieee.Datum} (h : b.isNaN = true) (a : Ieee.Datum) : a.sum b = none := by
  obtain ⟨s, t, rfl⟩ := isNaN_cases h; cases a <;> rfl
theorem product_nan1 {a : Ieee.Datum} (h : a.isNaN = true) (b : Ieee.Datum) : a.product b = none := by
  obtain ⟨s, t, rfl⟩ := isNaN_cases h; cases b <;> rfl
theorem product_nan2 {b : Ieee.Datum} (h : b.isNaN = true) (a : Ieee.Datum) : a.product b = none := by
  obtain ⟨s, t, rfl⟩ := isNaN_cases h; cases a <;> rfl
theorem opp_nan {a : Ieee.Datum} (h : a.isNaN = true) : a.opposite.isNaN = true := by
  obtain ⟨s, t, rfl⟩ := isNaN_cases h; rfl
theorem add_nan1 {x : Nat} (h : nan64 x = true) (y : Nat) : floatBits .add .f64 x y = none := by
  show ((Ieee.double.read x).sum (Ieee.double.read y)).map _ = none
  rw [sum_nan1 (read64_nan h)]; rfl
theorem add_nan2 {y : Nat} (h : nan64 y = true) (x : Nat) : floatBits .add .f64 x y = none := by
  show ((Ieee.double.read x).sum (Ieee.double.read y)).map _ = none
  rw [sum_nan2 (read64_nan h)]; rfl
theorem sub_nan1 {x : Nat} (h : nan64 x = true) (y : Nat) : floatBits .sub .f64 x y = none := by
  show ((Ieee.double.read x).sum (Ieee.double.read y).opposite).map _ = none
  rw [sum_nan1 (read64_nan h)]; rfl
theorem sub_nan2 {y : Nat} (h : nan64 y = true) (x : Nat) : floatBits .sub .f64 x y = none := by
  show ((Ieee.double.read x).sum (Ieee.double.read y).opposite).map _ = none
  rw [sum_nan2 (opp_nan (read64_nan h))]; rfl
theorem mul_nan1 {x : Nat} (h : nan64 x = true) (y : Nat) : floatBits .mul .f64 x y = none := by
  show ((Ieee.double.read x).product (Ieee.double.read y)).map _ = none
  rw [product_nan1 (read64_nan h)]; rfl
theorem mul_nan2 {y : Nat} (h : nan64 y = true) (x : Nat) : floatBits .mul .f64 x y = none := by
  show ((Ieee.double.read x).product (Ieee.double.read y)).map _ = none
  rw [product_nan2 (read64_nan h)]; rfl
theorem same64 (x : Nat) (w : World) : (convert 100 100 (.float .f64 x)).run Try.prog w = .ok (.float .f64 x) w :=
  run_convert_float_float w 100 100 .f64 .f64 x x (by kernel_rfl) Try.underlying100 rfl

/-- What is drawn of a NaN goes on as one. -/
theorem go_sub1 (a b : Nat) (u : World) (y : Nat) (w : World) : (binOp .sub 100 (.float .f64 (nanw .f64 a b u)) (.float .f64 y)).run Try.prog w = .ok (.float .f64 (nanw .f64 (nanw .f64 a b u) y w)) w.drew :=
  run_arith_none .sub (by simp) 100 .f64 _ y (sub_nan1 (nanw64 a b u).1 y) Try.prog w
theorem go_sub2 (a b : Nat) (u : World) (x : Nat) (w : World) : (binOp .sub 100 (.float .f64 x) (.float .f64 (nanw .f64 a b u))).run Try.prog w = .ok (.float .f64 (nanw .f64 x (nanw .f64 a b u) w)) w.drew :=
  run_arith_none .sub (by simp) 100 .f64 x _ (sub_nan2 (nanw64 a b u).1 x) Try.prog w
theorem go_add1 (a b : Nat) (u : World) (y : Nat) (w : World) : (binOp .add 100 (.float .f64 (nanw .f64 a b u)) (.float .f64 y)).run Try.prog w = .ok (.float .f64 (nanw .f64 (nanw .f64 a b u) y w)) w.drew :=
  run_arith_none .add (by simp) 100 .f64 _ y (add_nan1 (nanw64 a b u).1 y) Try.prog w

/-- The sum, or where something is lost the one of the two about it that is odd. -/
def oddV (s l : Nat) : Nat := if s % 2 = 1 ∨ rung64 l = 0 then s else if (Ieee.double.order l 0 == some Ordering.lt) = (Ieee.double.order s 0 == some Ordering.lt) then s + 1 else s - 1
end Go.Proofs.Ytdbbpmadkhedlaa
/- Plain facts: a sample times a power of two by way of binary64. -/
namespace Go.Proofs.Ytdbbpmadkhedlaa
open Go.RowKit

theorem toldD_num (s : Bool) (m : Nat) (p : Int) : toldD (some (.number s m p)) = Ieee.single.word s (rungOf Ieee.single m p) := nearest_rung _ _ _ _
theorem rung_big {m : Nat} {p : Int} (hm : m ≠ 0) (hp : 128 ≤ p) : rungOf Ieee.single m p = 2139095040 := by
  have h1 : rungOf Ieee.single 1 128 ≤ rungOf Ieee.single (m * 2 ^ (p - 128).toNat) 128 := rung_mono _ _ (Nat.mul_pos (by omega) (Nat.two_pow_pos _))
  rw [rung_scale, show (128 : Int) + (((p - 128).toNat : Nat) : Int) = p by omega] at h1
  have h2 : rungOf Ieee.single 1 128 = 2139095040 := by decide +kernel
  have h3 := rungOf_le Ieee.single m p
  rw [inf32] at h3
  omega
theorem rung_small {m : Nat} {p : Int} (hm : m < 16777216) (hp : p ≤ -174) : rungOf Ieee.single m p = 0 := by
  have h1 : rungOf Ieee.single m p ≤ rungOf Ieee.single (16777216 * 2 ^ (-174 - p).toNat) p := rung_mono _ _ (by
    have : 16777216 * 1 ≤ 16777216 * 2 ^ (-174 - p).toNat := Nat.mul_le_mul_left _ (Nat.two_pow_pos _)
    omega)
  rw [rung_scale, show p + (((-174 - p).toNat : Nat) : Int) = -174 by omega] at h1
  have h2 : rungOf Ieee.single 16777216 (-174) = 0 := by decide +kernel
  omega
theorem rungOf_zero (f : Ieee.Format) (p : Int) : rungOf f 0 p = 0 := by unfold rungOf; rw [if_pos rfl]
theorem read_word64 (s : Bool) : Ieee.double.read (Ieee.double.word s 0) = .number s 0 (-1074) := by
  obtain ⟨a, b⟩ := sgn_word64 s (r := 0) (by decide)
  rw [read_fin64 (by rw [b]; decide), a, b]; rfl
theorem read_winf64 (s : Bool) : Ieee.double.read (Ieee.double.word s 9218868437227405312) = .infinity s := by
  obtain ⟨a, b⟩ := sgn_word64 s (r := 9218868437227405312) (by decide)
  rw [read_inf64 b, a]
/-- What Scale tells of a sample that is no NaN: nought, infinity, or the number rounded. -/
theorem scaleV_fin {a : Nat} (h0 : rung32 a ≠ 0) (h : rung32 a < 2139095040) (n : Int) : scaleV a n = Ieee.single.word (sgn32 a) (rungOf Ieee.single (mag32 (rung32 a)) (-149 + (plc32 (rung32 a) : Int) + n)) := by
  have hn : nanN a = false := by rw [nanN_rung]; exact decide_eq_false (by omega)
  unfold scaleV
  rw [hn, if_neg (by decide)]
  obtain ⟨L, hL, m0, m1, e, hp⟩ := wide_wd h0 h
  obtain ⟨c0, c1⟩ := clamp_bd n
  have b0 : 4503599627370496 ≤ mag32 (rung32 a) * 2 ^ (52 - L) := by
    have := Nat.mul_le_mul_right (2 ^ (52 - L)) m0
    rw [← Nat.pow_add, show L + (52 - L) = 52 by omega] at this
    exact this
  have b1 : mag32 (rung32 a) * 2 ^ (52 - L) < 9007199254740992 := by
    have := Nat.mul_lt_mul_of_pos_right m1 (Nat.two_pow_pos (52 - L))
    rw [← Nat.pow_add, show L + 1 + (52 - L) = 53 by omega] at this
    exact this
  rw [e, ldV_wd b0 b1 (by omega) (by omega) (by omega), read_wd b0 b1 (by omega) (by omega)]
  rw [toldD_num, rung_scale, show -149 + (plc32 (rung32 a) : Int) + L - 52 + clampV n + ((52 - L : Nat) : Int) = -149 + (plc32 (rung32 a) : Int) + clampV n by omega]
  refine congrArg (Ieee.single.word (sgn32 a)) ?_
  have hm := mag_ne32 h0
  have hm1 := mag_lt32 (rung32 a)
  unfold clampV
  split
  · rw [rung_small hm1 (by omega), rung_small hm1 (by omega)]
  · split
    · rw [rung_big hm (by omega), rung_big hm (by omega)]
    · rfl
theorem scaleV_zero {a : Nat} (h : rung32 a = 0) (n : Int) : scaleV a n = Ieee.single.word (sgn32 a) 0 := by
  have hn : nanN a = false := by rw [nanN_rung]; exact decide_eq_false (by omega)
  unfold scaleV ldV
  rw [hn, if_neg (by decide), wide_zero h, if_pos (Or.inl (sgn_word64 _ (by decide)).2), read_word64]
  rw [toldD_num, rungOf_zero]
theorem scaleV_inf {a : Nat} (h : rung32 a = 2139095040) (n : Int) : scaleV a n = Ieee.single.word (sgn32 a) 2139095040 := by
  have hn : nanN a = false := by rw [nanN_rung]; exact decide_eq_false (by omega)
  unfold scaleV ldV
  rw [hn, if_neg (by decide), wide_inf h, if_pos (Or.inr (by rw [(sgn_word64 _ (by decide)).2]; exact Nat.le_refl _)), read_winf64]
  show Ieee.single.word _ Ieee.single.infRung = _
  rw [inf32]
theorem scaleV_nan {a : Nat} (h : nanN a = true) (n : Int) : scaleV a n = 2143289344 := by
  unfold scaleV; rw [h]; rfl
end Go.Proofs.Ytdbbpmadkhedlaa
/- Plain facts: numbers of binary64 in its least units: rounding, what it keeps, sums and differences; what is lost of a sum is told exactly. -/
namespace Go.Proofs.Ytdbbpmadkhedlaa
open Go.RowKit

/-- How many digits a number in least units loses. -/
def lostK (M : Nat) : Nat := M.log2 - 52
theorem kept_bd {M : Nat} : rne M (lostK M) ≤ 9007199254740992 ∧ (0 < lostK M → 4503599627370496 ≤ rne M (lostK M)) := by
  have e1 : lastOf Ieee.double M (-1074) = -1074 + (lostK M : Int) := by unfold lastOf lostK; rw [least64, frac64]; omega
  have e3 : (-1074 : Int) - (-1074 + (lostK M : Int)) = -(lostK M : Int) := by omega
  have hk := kept_le Ieee.double M (-1074)
  rw [e1, e3, rz_neg, binade64] at hk
  refine ⟨hk, fun h => ?_⟩
  have hM : M ≠ 0 := by intro h0; subst h0; exact absurd h (by decide)
  have := le_kept Ieee.double hM (-1074) (by rw [e1, frac64]; unfold lostK at *; omega)
  rw [e1, e3, rz_neg, binade64] at this
  exact this
theorem rung64_eq {M : Nat} (hM : M.log2 ≤ 2000) : rungOf Ieee.double M (-1074) = lostK M * 4503599627370496 + rne M (lostK M) := by
  by_cases h : M = 0
  · subst h
    rw [rungOf_zero, show lostK 0 = 0 from by decide, rne_zero]
  · unfold rungOf
    rw [if_neg h]
    have e1 : lastOf Ieee.double M (-1074) = -1074 + (lostK M : Int) := by unfold lastOf lostK; rw [least64, frac64]; omega
    have e2 : (-1074 + (lostK M : Int) - -1074).toNat = lostK M := by omega
    have e3 : (-1074 : Int) - (-1074 + (lostK M : Int)) = -(lostK M : Int) := by omega
    rw [e1, least64, binade64, inf64, e2, e3, rz_neg]
    have hk := (kept_bd (M := M)).1
    have hl : lostK M ≤ 1948 := by unfold lostK; omega
    rw [Nat.min_eq_left (by omega)]
theorem val_of {K c : Nat} (h : c ≤ 9007199254740992) (h' : 0 < K → 4503599627370496 ≤ c) : val64 (K * 4503599627370496 + c) = c * 2 ^ K := by
  unfold val64 mag64
  rcases Nat.lt_or_ge c 9007199254740992 with g | g
  · rcases Nat.lt_or_ge c 4503599627370496 with k | k
    · have hK : K = 0 := by omega
      subst hK
      have e : plc64 (0 * 4503599627370496 + c) = 0 := by unfold plc64; omega
      rw [e]; congr 1; omega
    · have e : plc64 (K * 4503599627370496 + c) = K := by unfold plc64; omega
      rw [e]; congr 1; omega
  · have e : plc64 (K * 4503599627370496 + c) = K + 1 := by unfold plc64; omega
    rw [e, Nat.pow_succ]
    have e2 : K * 4503599627370496 + c - (K + 1) * 4503599627370496 = 4503599627370496 := by omega
    have e3 : c = 4503599627370496 * 2 := by omega
    rw [e2, e3, Nat.mul_assoc, Nat.mul_comm (2 ^ K) 2]
theorem vN_eq {M : Nat} (hM : M.log2 ≤ 2000) : val64 (rungOf Ieee.double M (-1074)) = rne M (lostK M) * 2 ^ lostK M := by
  rw [rung64_eq hM, val_of kept_bd.1 kept_bd.2]
theorem vN_div {M : Nat} (hM : M.log2 ≤ 2000) (h : 2 ^ lostK M ∣ M) : val64 (rungOf Ieee.double M (-1074)) = M := by
  rw [vN_eq hM]
  obtain ⟨o, ho⟩ := h
  have : rne M (lostK M) = o := by
    have e := rne_exact o (lostK M)
    rw [Nat.mul_comm, ← ho] at e
    exact e
  rw [this, Nat.mul_comm, ← ho]
theorem vN_exact {M g : Nat} (hM : M.log2 ≤ 2000) (hd : 2 ^ g ∣ M) (hb : M < 2 ^ (53 + g)) : val64 (rungOf Ieee.double M (-1074)) = M := by
  by_cases h0 : M = 0
  · subst h0; rw [rungOf_zero]; exact val_zero64
  · refine vN_div hM ?_
    have hl := (Nat.log2_lt h0).2 hb
    exact Nat.dvd_trans (Nat.pow_dvd_pow 2 (by unfold lostK; omega)) hd
theorem vN_dvd {M g : Nat} (hM : M.log2 ≤ 2000) (hd : 2 ^ g ∣ M) : 2 ^ g ∣ val64 (rungOf Ieee.double M (-1074)) := by
  rcases Nat.le_total g (lostK M) with h | h
  · rw [vN_eq hM]
    exact Nat.dvd_trans (Nat.pow_dvd_pow 2 h) (Nat.dvd_mul_left _ _)
  · rw [vN_div hM (Nat.dvd_trans (Nat.pow_dvd_pow 2 h) hd)]
    exact hd
/-- Of all multiples the rounded one is the nearest. -/
theorem rne_best (M K j : Nat) : ((rne M K * 2 ^ K : Nat) - (M : Int)).natAbs ≤ ((j * 2 ^ K : Nat) - (M : Int)).natAbs := by
  obtain ⟨a1, a2⟩ := rne_near M K
  rcases Nat.lt_trichotomy j (rne M K) with h | h | h
  · have : (j + 1) * 2 ^ K ≤ rne M K * 2 ^ K := Nat.mul_le_mul_right _ h
    rw [Nat.add_mul, Nat.one_mul] at this
    omega
  · rw [h]; exact Nat.le_refl _
  · have : (rne M K + 1) * 2 ^ K ≤ j * 2 ^ K := Nat.mul_le_mul_right _ h
    rw [Nat.add_mul, Nat.one_mul] at this
    omega
theorem vN_best {M : Nat} (hM : M.log2 ≤ 2000) (r : Nat) : ((val64 (rungOf Ieee.double M (-1074)) : Int) - (M : Int)).natAbs ≤ ((val64 r : Int) - (M : Int)).natAbs := by
  rw [vN_eq hM]
  rcases Nat.lt_or_ge (plc64 r) (lostK M) with h | h
  · -- it lies below the least multiple that is not above
    have hm : 2 ^ (52 + lostK M) ≤ M := by
      have h0 : M ≠ 0 := by intro h0; subst h0; exact absurd h (by rw [show lostK 0 = 0 from by decide]; omega)
      exact Nat.le_trans (Nat.pow_le_pow_right (by decide) (by unfold lostK; unfold lostK at h; omega)) (Nat.log2_self_le h0)
    have hv : val64 r < 2 ^ (52 + lostK M) := by
      unfold val64
      have a1 : mag64 r * 2 ^ plc64 r < 2 ^ 53 * 2 ^ plc64 r := Nat.mul_lt_mul_of_pos_right (mag_lt64 r) (Nat.two_pow_pos _)
      rw [← Nat.pow_add] at a1
      exact Nat.lt_of_lt_of_le a1 (Nat.pow_le_pow_right (by decide) (by omega))
    have hb := rne_best M (lostK M) (2 ^ 52)
    rw [← Nat.pow_add] at hb
    omega
  · have e : val64 r = mag64 r * 2 ^ (plc64 r - lostK M) * 2 ^ lostK M := by
      unfold val64
      rw [Nat.mul_assoc, ← Nat.pow_add, show plc64 r - lostK M + lostK M = plc64 r by omega]
    rw [e]
    exact rne_best M (lostK M) _

/-- A whole number of least units, rounded to binary64. -/
def RN (Z : Int) : Int := if Z < 0 then -(val64 (rungOf Ieee.double Z.natAbs (-1074)) : Int) else (val64 (rungOf Ieee.double Z.natAbs (-1074)) : Int)
theorem RN_abs (Z : Int) : (RN Z).natAbs = val64 (rungOf Ieee.double Z.natAbs (-1074)) := by unfold RN; split <;> omega
theorem RN_exact {Z : Int} {g : Nat} (hs : Z.natAbs.log2 ≤ 2000) (hd : ((2 ^ g : Nat) : Int) ∣ Z) (hb : Z.natAbs < 2 ^ (53 + g)) : RN Z = Z := by
  unfold RN
  rw [vN_exact hs (Int.ofNat_dvd_left.1 hd) hb]
  split <;> omega
theorem RN_dvd {Z : Int} {g : Nat} (hs : Z.natAbs.log2 ≤ 2000) (hd : ((2 ^ g : Nat) : Int) ∣ Z) : ((2 ^ g : Nat) : Int) ∣ RN Z := by
  rw [Int.ofNat_dvd_left, RN_abs]
  exact vN_dvd hs (Int.ofNat_dvd_left.1 hd)
theorem RN_zero : RN 0 = 0 := by
  unfold RN
  rw [show (0 : Int).natAbs = 0 from rfl, rungOf_zero, val_zero64]; rfl
theorem RN_best {Z : Int} (hs : Z.natAbs.log2 ≤ 2000) (v : Nat) : (RN Z - Z).natAbs ≤ (sval64 v - Z).natAbs := by
  have h1 := vN_best hs (rung64 v)
  have h0 := vN_best hs 0
  rw [val_zero64] at h0
  unfold RN sval64
  generalize val64 (rungOf Ieee.double Z.natAbs (-1074)) = V at h0 h1
  generalize val64 (rung64 v) = W at h1
  split <;> split <;> omega
theorem RN_self {v : Nat} (hs : (sval64 v).natAbs.log2 ≤ 2000) : RN (sval64 v) = sval64 v := by
  have := RN_best hs v
  rw [Int.sub_self] at this
  omega
theorem RN_le {Z : Int} (hs : Z.natAbs.log2 ≤ 2000) : (RN Z).natAbs ≤ 2 * Z.natAbs := by
  have h := RN_best hs 0
  have e : sval64 0 = 0 := by decide
  rw [e] at h
  omega

/-- The word of a sign and a number of least units. -/
def wordOf (σ : Bool) (Z : Int) : Nat := Ieee.double.word σ (rungOf Ieee.double Z.natAbs (-1074))
theorem wordOf_facts {σ : Bool} {Z : Int} (hs : Z.natAbs.log2 ≤ 2000) (hσ : Z ≠ 0 → σ = decide (Z < 0)) :
    rung64 (wordOf σ Z) = rungOf Ieee.double Z.natAbs (-1074) ∧ sgn64 (wordOf σ Z) = σ ∧ rung64 (wordOf σ Z) < 9218868437227405312 ∧ sval64 (wordOf σ Z) = RN Z := by
  have hr : rungOf Ieee.double Z.natAbs (-1074) < 9218868437227405312 := by
    rw [rung64_eq hs]
    have := (kept_bd (M := Z.natAbs)).1
    have : lostK Z.natAbs ≤ 1948 := by unfold lostK; omega
    omega
  obtain ⟨a, b⟩ := sgn_word64 σ (r := rungOf Ieee.double Z.natAbs (-1074)) (by omega)
  refine ⟨b, a, by unfold wordOf; rw [b]; exact hr, ?_⟩
  unfold sval64 wordOf RN
  rw [a, b]
  by_cases h : Z = 0
  · subst h
    rw [show (0 : Int).natAbs = 0 from rfl, rungOf_zero, val_zero64]
    cases σ <;> rfl
  · rw [hσ h]
    by_cases k : Z < 0
    · rw [decide_eq_true k, if_pos rfl, if_pos k]
    · rw [decide_eq_false k, if_neg (by decide), if_neg k]

/-- The sign of a sum. -/
def sg (s t : Bool) (Z : Int) : Bool := if Z = 0 then s && t else decide (Z < 0)
theorem sg_of {s t : Bool} {Z : Int} (h : Z ≠ 0) : sg s t Z = decide (Z < 0) := by unfold sg; rw [if_neg h]
/-- An exact sum, in least units. -/
theorem sum_units (s t : Bool) (m n : Nat) (i j : Int) (hi : -1074 ≤ i) (hj : -1074 ≤ j) :
    ∃ N b, (Ieee.Datum.number s m i).sum (.number t n j) = some (.number (sg s t (Ieee.signed s m (i + 1074).toNat + Ieee.signed t n (j + 1074).toNat)) N b) ∧
      ∀ f, rungOf f N b = rungOf f (Ieee.signed s m (i + 1074).toNat + Ieee.signed t n (j + 1074).toNat).natAbs (-1074) := by
  obtain ⟨k, hk⟩ : ∃ k : Nat, min i j = -1074 + (k : Int) := ⟨(min i j + 1074).toNat, by omega⟩
  obtain ⟨Y, hY⟩ : ∃ Y, Y = Ieee.signed s m (i - min i j).toNat + Ieee.signed t n (j - min i j).toNat := ⟨_, rfl⟩
  have e : Ieee.signed s m (i + 1074).toNat + Ieee.signed t n (j + 1074).toNat = Y * 2 ^ k := by
    rw [hY, Int.add_mul, signed_shift, signed_shift, show (i - min i j).toNat + k = (i + 1074).toNat by omega, show (j - min i j).toNat + k = (j + 1074).toNat by omega]
    unfold Ieee.signed
    rw [Nat.shiftLeft_eq, Nat.shiftLeft_eq, Nat.shiftLeft_zero, Nat.shiftLeft_zero]
  have hp : (0 : Int) < 2 ^ k := Int.pow_pos (by decide)
  have hz : (Y * 2 ^ k = 0) ↔ Y = 0 := by
    constructor
    · intro h; rcases Int.mul_eq_zero.1 h with h | h
      · exact h
      · omega
    · intro h; rw [h, Int.zero_mul]
  have hl : (Y * 2 ^ k < 0) ↔ Y < 0 := by
    constructor
    · intro h
      rcases Int.lt_or_le Y 0 with g | g
      · exact g
      · have := Int.mul_nonneg g (Int.le_of_lt hp); omega
    · intro h; exact Int.mul_neg_of_neg_of_pos h hp
  refine ⟨Y.natAbs, min i j, ?_, ?_⟩
  · rw [e]
    show some (Ieee.Datum.number (if Ieee.signed s m (i - min i j).toNat + Ieee.signed t n (j - min i j).toNat = 0 then s && t else decide (Ieee.signed s m (i - min i j).toNat + Ieee.signed t n (j - min i j).toNat < 0)) (Ieee.signed s m (i - min i j).toNat + Ieee.signed t n (j - min i j).toNat).natAbs (min i j)) = _
    rw [← hY]
    unfold sg
    simp only [hz, hl]
  · intro f
    rw [e, rung_down f Y.natAbs k, show min i j - (k : Int) = -1074 by omega]
    congr 1
    rw [Int.natAbs_mul, Int.natAbs_pow]; rfl
theorem signed_read (x : Nat) : Ieee.signed (sgn64 x) (mag64 (rung64 x)) (-1074 + (plc64 (rung64 x) : Int) + 1074).toNat = sval64 x := by
  rw [show (-1074 + (plc64 (rung64 x) : Int) + 1074).toNat = plc64 (rung64 x) by omega]
  unfold Ieee.signed sval64 val64
  rw [Nat.shiftLeft_eq]
theorem signed_neg (s : Bool) (m k : Nat) : Ieee.signed (!s) m k = -Ieee.signed s m k := by
  unfold Ieee.signed; cases s <;> simp
theorem add_fin {x y : Nat} (hx : rung64 x < 9218868437227405312) (hy : rung64 y < 9218868437227405312) :
    floatBits .add .f64 x y = some (wordOf (sg (sgn64 x) (sgn64 y) (sval64 x + sval64 y)) (sval64 x + sval64 y)) := by
  show ((Ieee.double.read x).sum (Ieee.double.read y)).map Ieee.double.write = _
  rw [read_fin64 hx, read_fin64 hy]
  obtain ⟨N, b, e1, e2⟩ := sum_units (sgn64 x) (sgn64 y) (mag64 (rung64 x)) (mag64 (rung64 y)) (-1074 + (plc64 (rung64 x) : Int)) (-1074 + (plc64 (rung64 y) : Int)) (by omega) (by omega)
  rw [e1]
  show some (Ieee.double.nearest _ N b) = _
  rw [nearest_rung, e2, signed_read, signed_read]; rfl
theorem sub_fin {x y : Nat} (hx : rung64 x < 9218868437227405312) (hy : rung64 y < 9218868437227405312) :
    floatBits .sub .f64 x y = some (wordOf (sg (sgn64 x) (!sgn64 y) (sval64 x - sval64 y)) (sval64 x - sval64 y)) := by
  show ((Ieee.double.read x).sum (Ieee.double.read y).opposite).map Ieee.double.write = _
  rw [read_fin64 hx, read_fin64 hy]
  obtain ⟨N, b, e1, e2⟩ := sum_units (sgn64 x) (!sgn64 y) (mag64 (rung64 x)) (mag64 (rung64 y)) (-1074 + (plc64 (rung64 x) : Int)) (-1074 + (plc64 (rung64 y) : Int)) (by omega) (by omega)
  show ((Ieee.Datum.number (sgn64 x) (mag64 (rung64 x)) (-1074 + (plc64 (rung64 x) : Int))).sum (.number (!sgn64 y) (mag64 (rung64 y)) (-1074 + (plc64 (rung64 y) : Int)))).map Ieee.double.write = _
  rw [e1]
  show some (Ieee.double.nearest _ N b) = _
  rw [nearest_rung, e2, signed_neg, signed_read, signed_read, ← Int.sub_eq_add_neg]; rfl
end Go.Proofs.Ytdbbpmadkhedlaa
/- Plain facts: what is lost of a sum in binary64 is told exactly by five steps; the sum made odd, made narrow, is the exact sum rounded once. -/
namespace Go.Proofs.Ytdbbpmadkhedlaa
open Go.RowKit

/-- A size that no sum here comes to. -/
def capJ : Nat := 1990
theorem cap_log {n : Nat} (h : n < 1024 * 2 ^ capJ) : n.log2 ≤ 2000 := by
  by_cases h0 : n = 0
  · subst h0; decide
  · have e : 1024 * 2 ^ capJ = 2 ^ (10 + capJ) := by rw [Nat.pow_add]
    rw [e] at h
    have := (Nat.log2_lt h0).2 h
    unfold capJ at this
    omega
/-- The size. -/
def ab (z : Int) : Nat := z.natAbs
theorem ab_add (a b : Int) : ab (a + b) ≤ ab a + ab b := by unfold ab; omega
theorem ab_sub (a b : Int) : ab (a - b) ≤ ab a + ab b := by unfold ab; omega
theorem ab_neg {a b : Int} (h : a = -b) : ab a = ab b := by unfold ab; omega
theorem sub_step {B x y : Nat} (hB : ∀ n, n < 1024 * B → n.log2 ≤ 2000) (hx : rung64 x < 9218868437227405312) (hy : rung64 y < 9218868437227405312) (hs : ab (sval64 x - sval64 y) < 1024 * B) :
    ∃ r, floatBits .sub .f64 x y = some r ∧ sval64 r = RN (sval64 x - sval64 y) ∧ rung64 r < 9218868437227405312 ∧ ab (sval64 r) ≤ 2 * ab (sval64 x - sval64 y) := by
  obtain ⟨a, b, c, d⟩ := wordOf_facts (σ := sg (sgn64 x) (!sgn64 y) (sval64 x - sval64 y)) (hB _ hs) sg_of
  exact ⟨_, sub_fin hx hy, d, c, by rw [d]; exact RN_le (hB _ hs)⟩
theorem add_step {B x y : Nat} (hB : ∀ n, n < 1024 * B → n.log2 ≤ 2000) (hx : rung64 x < 9218868437227405312) (hy : rung64 y < 9218868437227405312) (hs : ab (sval64 x + sval64 y) < 1024 * B) :
    ∃ r, floatBits .add .f64 x y = some r ∧ sval64 r = RN (sval64 x + sval64 y) ∧ rung64 r < 9218868437227405312 ∧ ab (sval64 r) ≤ 2 * ab (sval64 x + sval64 y) := by
  obtain ⟨a, b, c, d⟩ := wordOf_facts (σ := sg (sgn64 x) (sgn64 y) (sval64 x + sval64 y)) (hB _ hs) sg_of
  exact ⟨_, add_fin hx hy, d, c, by rw [d]; exact RN_le (hB _ hs)⟩

/-- The five steps. -/
theorem lost_words {B x y s g : Nat} (hB : ∀ n, n < 1024 * B → n.log2 ≤ 2000) (hx : rung64 x < 9218868437227405312) (hy : rung64 y < 9218868437227405312) (hs : rung64 s < 9218868437227405312)
    (bx : ab (sval64 x) < B) (by' : ab (sval64 y) < B) (dx : ((2 ^ g : Nat) : Int) ∣ sval64 x) (dy : ((2 ^ g : Nat) : Int) ∣ sval64 y)
    (hg : ab (sval64 x) < 2 ^ (48 + g) ∨ ab (sval64 y) < 2 ^ (48 + g)) (hS : sval64 s = RN (sval64 x + sval64 y)) :
    ∃ p q t u l, floatBits .sub .f64 s x = some p ∧ floatBits .sub .f64 s p = some q ∧ floatBits .sub .f64 x q = some t ∧ floatBits .sub .f64 y p = some u ∧ floatBits .add .f64 t u = some l ∧
      sval64 l = sval64 x + sval64 y - sval64 s ∧ rung64 l < 9218868437227405312 := by
  have z1 := ab_add (sval64 x) (sval64 y)
  have hZ : (sval64 x + sval64 y).natAbs.log2 ≤ 2000 := hB _ (show ab (sval64 x + sval64 y) < 1024 * B by omega)
  have b1 : ab (sval64 s - (sval64 x + sval64 y)) ≤ ab (sval64 y) := by
    have h : ab (RN (sval64 x + sval64 y) - (sval64 x + sval64 y)) ≤ ab (sval64 x - (sval64 x + sval64 y)) := RN_best hZ x
    rw [← hS, ab_neg (show sval64 x - (sval64 x + sval64 y) = -sval64 y by omega)] at h
    exact h
  have b2 : ab (sval64 s - (sval64 x + sval64 y)) ≤ ab (sval64 x) := by
    have h : ab (RN (sval64 x + sval64 y) - (sval64 x + sval64 y)) ≤ ab (sval64 y - (sval64 x + sval64 y)) := RN_best hZ y
    rw [← hS, ab_neg (show sval64 y - (sval64 x + sval64 y) = -sval64 x by omega)] at h
    exact h
  have b3 : ab (sval64 s) ≤ 2 * ab (sval64 x + sval64 y) := by rw [hS]; exact RN_le hZ
  have ds : ((2 ^ g : Nat) : Int) ∣ sval64 s := by rw [hS]; exact RN_dvd hZ (Int.dvd_add dx dy)
  have e53 : 2 ^ (53 + g) = 32 * 2 ^ (48 + g) := by rw [show 53 + g = 5 + (48 + g) by omega, Nat.pow_add]
  have z2 := ab_sub (sval64 s) (sval64 x)
  obtain ⟨p, fp, vp, rp, bp⟩ := sub_step hB hs hx (by omega)
  have hP : (sval64 s - sval64 x).natAbs.log2 ≤ 2000 := hB _ (show ab (sval64 s - sval64 x) < 1024 * B by omega)
  have dP := Int.dvd_sub ds dx
  have dp : ((2 ^ g : Nat) : Int) ∣ sval64 p := by rw [vp]; exact RN_dvd hP dP
  have z3 := ab_sub (sval64 s) (sval64 p)
  obtain ⟨q, fq, vq, rq, bq⟩ := sub_step hB hs rp (by omega)
  have hQ : (sval64 s - sval64 p).natAbs.log2 ≤ 2000 := hB _ (show ab (sval64 s - sval64 p) < 1024 * B by omega)
  have z4 := ab_sub (sval64 x) (sval64 q)
  have z5 := ab_sub (sval64 y) (sval64 p)
  obtain ⟨t, ft, vt, rt, bt⟩ := sub_step hB hx rq (by omega)
  obtain ⟨u, fu, vu, ru, bu⟩ := sub_step hB hy rp (by omega)
  have hT : (sval64 x - sval64 q).natAbs.log2 ≤ 2000 := hB _ (show ab (sval64 x - sval64 q) < 1024 * B by omega)
  have hU : (sval64 y - sval64 p).natAbs.log2 ≤ 2000 := hB _ (show ab (sval64 y - sval64 p) < 1024 * B by omega)
  have z6 := ab_add (sval64 t) (sval64 u)
  obtain ⟨l, fl, vl, rl, bl⟩ := add_step hB rt ru (by omega)
  have hL : (sval64 t + sval64 u).natAbs.log2 ≤ 2000 := hB _ (show ab (sval64 t + sval64 u) < 1024 * B by omega)
  refine ⟨p, q, t, u, l, fp, fq, ft, fu, fl, ?_, rl⟩
  rcases hg with hg | hg
  · -- the first one is small
    have b4 : ab (sval64 p - (sval64 s - sval64 x)) ≤ ab (sval64 x) := by
      have h : ab (RN (sval64 s - sval64 x) - (sval64 s - sval64 x)) ≤ ab (sval64 y - (sval64 s - sval64 x)) := RN_best hP y
      rw [← vp, ab_neg (show sval64 y - (sval64 s - sval64 x) = -(sval64 s - (sval64 x + sval64 y)) by omega)] at h
      exact Nat.le_trans h b2
    have eq : sval64 q = sval64 s - sval64 p := by
      have k1 := ab_sub (sval64 x) (sval64 p - (sval64 s - sval64 x))
      rw [show sval64 x - (sval64 p - (sval64 s - sval64 x)) = sval64 s - sval64 p by omega] at k1
      rw [vq]; exact RN_exact hQ (Int.dvd_sub ds dp) (show ab (sval64 s - sval64 p) < 2 ^ (53 + g) by omega)
    have et : sval64 t = sval64 x - sval64 q := by
      have k1 : sval64 x - sval64 q = sval64 p - (sval64 s - sval64 x) := by rw [eq]; omega
      rw [vt]
      refine RN_exact hT (g := g) ?_ (show ab (sval64 x - sval64 q) < 2 ^ (53 + g) by rw [k1]; omega)
      rw [k1]; exact Int.dvd_sub dp dP
    have eu : sval64 u = sval64 y - sval64 p := by
      have k1 := ab_sub (sval64 y - (sval64 s - sval64 x)) (sval64 p - (sval64 s - sval64 x))
      rw [show sval64 y - (sval64 s - sval64 x) - (sval64 p - (sval64 s - sval64 x)) = sval64 y - sval64 p by omega, ab_neg (show sval64 y - (sval64 s - sval64 x) = -(sval64 s - (sval64 x + sval64 y)) by omega)] at k1
      rw [vu]; exact RN_exact hU (Int.dvd_sub dy dp) (show ab (sval64 y - sval64 p) < 2 ^ (53 + g) by omega)
    have esum : sval64 t + sval64 u = sval64 x + sval64 y - sval64 s := by rw [et, eu, eq]; omega
    have k2 : ab (sval64 t + sval64 u) = ab (sval64 s - (sval64 x + sval64 y)) := ab_neg (by rw [esum]; omega)
    rw [vl]
    have k3 : RN (sval64 t + sval64 u) = sval64 t + sval64 u := by
      refine RN_exact hL (g := g) ?_ (show ab (sval64 t + sval64 u) < 2 ^ (53 + g) by omega)
      rw [esum]; exact Int.dvd_sub (Int.dvd_add dx dy) ds
    rw [k3, esum]
  · have ep : sval64 p = sval64 s - sval64 x := by
      have k1 := ab_add (sval64 s - (sval64 x + sval64 y)) (sval64 y)
      rw [show sval64 s - (sval64 x + sval64 y) + sval64 y = sval64 s - sval64 x by omega] at k1
      rw [vp]; exact RN_exact hP dP (show ab (sval64 s - sval64 x) < 2 ^ (53 + g) by omega)
    have eq : sval64 q = sval64 x := by
      rw [vq, ep, show sval64 s - (sval64 s - sval64 x) = sval64 x by omega]
      exact RN_self (hB _ (show ab (sval64 x) < 1024 * B by omega))
    have et : sval64 t = 0 := by
      rw [vt, eq, Int.sub_self]; exact RN_zero
    have k1 : ab (sval64 y - sval64 p) = ab (sval64 s - (sval64 x + sval64 y)) := ab_neg (by rw [ep]; omega)
    have eu : sval64 u = sval64 y - sval64 p := by
      rw [vu]; exact RN_exact hU (Int.dvd_sub dy dp) (show ab (sval64 y - sval64 p) < 2 ^ (53 + g) by omega)
    have esum : sval64 t + sval64 u = sval64 x + sval64 y - sval64 s := by rw [et, eu, ep]; omega
    have k2 : ab (sval64 t + sval64 u) = ab (sval64 s - (sval64 x + sval64 y)) := ab_neg (by rw [esum]; omega)
    rw [vl]
    have k3 : RN (sval64 t + sval64 u) = sval64 t + sval64 u := by
      refine RN_exact hL (g := g) ?_ (show ab (sval64 t + sval64 u) < 2 ^ (53 + g) by omega)
      rw [esum]; exact Int.dvd_sub (Int.dvd_add dx dy) ds
    rw [k3, esum]

theorem sval_zero {l : Nat} : sval64 l = 0 ↔ rung64 l = 0 := by
  have h1 : rung64 l = 0 → val64 (rung64 l) = 0 := fun h => by rw [h]; exact val_zero64
  have h2 : 0 < rung64 l → 0 < val64 (rung64 l) := val_pos64
  unfold sval64
  constructor
  · intro h
    rcases Nat.eq_zero_or_pos (rung64 l) with g | g
    · exact g
    · have := h2 g; split at h <;> omega
  · intro h
    rw [h1 h]; split <;> rfl
theorem order_neg {l : Nat} (h : rung64 l < 9218868437227405312) : (Ieee.double.order l 0 == some Ordering.lt) = decide (sval64 l < 0) := by
  rw [order_fin64 h (by decide), ← sval_srung64, cmp_lt, show sval64 0 = 0 from by decide]

/-- The odd one of the two about a number. -/
theorem odd_stick (M : Nat) :
    (if rne M (lostK M) % 2 = 1 ∨ rne M (lostK M) * 2 ^ lostK M = M then rne M (lostK M) else if rne M (lostK M) * 2 ^ lostK M < M then rne M (lostK M) + 1 else rne M (lostK M) - 1) = stick M (lostK M + 1) := by
  obtain ⟨K, hKe⟩ : ∃ K, K = lostK M := ⟨_, rfl⟩
  rw [← hKe]
  have hp := Nat.two_pow_pos K
  have d1 := Nat.div_add_mod M (2 ^ K)
  have r1 := Nat.mod_lt M hp
  have ep : 2 ^ (K + 1) = 2 * 2 ^ K := by rw [Nat.pow_succ]; omega
  have c1 : M / 2 ^ (K + 1) = M / 2 ^ K / 2 := by rw [Nat.pow_succ, Nat.div_div_eq_div_mul]
  have c2 := Nat.div_add_mod M (2 ^ (K + 1))
  have hc : (rne M K = M / 2 ^ K ∧ ¬ (2 ^ K < 2 * (M % 2 ^ K) ∨ (2 ^ K = 2 * (M % 2 ^ K) ∧ M / 2 ^ K % 2 = 1))) ∨ (rne M K = M / 2 ^ K + 1 ∧ (2 ^ K < 2 * (M % 2 ^ K) ∨ (2 ^ K = 2 * (M % 2 ^ K) ∧ M / 2 ^ K % 2 = 1))) := by
    unfold rne
    by_cases h : goesUp M K
    · rw [if_pos h]; exact Or.inr ⟨rfl, h⟩
    · rw [if_neg h]; exact Or.inl ⟨rfl, h⟩
  unfold stick
  rw [c1] at c2 ⊢
  generalize rne M K = c at hc
  generalize hT : M / 2 ^ K = T at c2 d1 hc
  generalize hr : M % 2 ^ K = r at d1 r1 hc
  generalize hR : M % 2 ^ (K + 1) = R at c2
  rw [ep] at c2
  generalize hE : 2 ^ K = E at c2 d1 r1 hp hc
  clear hT hr hR hE hKe ep c1
  have hRr : R = T % 2 * E + r := by
    have a1 : E * T = 2 * E * (T / 2) + T % 2 * E := by
      have h2 : E * T = E * (2 * (T / 2) + T % 2) := by rw [Nat.div_add_mod T 2]
      rw [h2, Nat.mul_add, ← Nat.mul_assoc, Nat.mul_comm E 2, Nat.mul_comm E (T % 2)]
    omega
  have e0 : E * T = T * E := Nat.mul_comm _ _
  have e2 : (T + 1) * E = T * E + E := by rw [Nat.add_mul, Nat.one_mul]
  have hT2 := Nat.div_add_mod T 2
  rcases Nat.mod_two_eq_zero_or_one T with ht | ht
  · rw [ht, Nat.zero_mul, Nat.zero_add] at hRr
    rw [hRr]
    rcases hc with ⟨rfl, up⟩ | ⟨rfl, up⟩
    · by_cases hr0 : r = 0
      · rw [if_pos (Or.inr (by omega)), if_pos hr0]; omega
      · rw [if_neg hr0, if_neg (by omega), if_pos (by omega)]; omega
    · rw [if_pos (Or.inl (by omega)), if_neg (by omega)]; omega
  · rw [ht, Nat.one_mul] at hRr
    rw [if_neg (show ¬ R = 0 by omega)]
    rcases hc with ⟨rfl, up⟩ | ⟨rfl, up⟩
    · rw [if_pos (Or.inl ht)]; omega
    · rw [if_neg (by omega), if_neg (by omega)]; omega
/-- A number rounded to odd in binary64, then to a sample, is the number rounded once. -/
theorem stick_rung {M : Nat} (hM : M.log2 ≤ 2000) (hK : 0 < lostK M) : rungOf Ieee.single (stick M (lostK M + 1) * 2 ^ lostK M) (-1074) = rungOf Ieee.single M (-1074) := by
  have h0 : M ≠ 0 := by intro h0; subst h0; exact absurd hK (by decide)
  rw [rung_scale]
  have := rung_stick Ieee.single (M := M) (k := lostK M + 1) (-1074) (by unfold lostK at *; omega) h0 (by
    unfold lastOf
    rw [show (Ieee.single.fractionBits : Int) = 23 from rfl]
    unfold lostK at *
    omega)
  rw [← this]
  congr 1; omega
end Go.Proofs.Ytdbbpmadkhedlaa
/- Plain facts: the program's product and sum in binary64, the sum made odd, made narrow: the exact number rounded once. -/
namespace Go.Proofs.Ytdbbpmadkhedlaa
open Go.RowKit

/-- A finite sample in least units of binary64. -/
def sampleZ (a : Nat) : Int := Ieee.signed (sgn32 a) (mag32 (rung32 a)) (plc32 (rung32 a) + 925)
theorem signed_abs (s : Bool) (m k : Nat) : (Ieee.signed s m k).natAbs = m * 2 ^ k := by
  unfold Ieee.signed; rw [Nat.shiftLeft_eq]; split <;> omega
theorem signed_sign {s : Bool} {m k : Nat} (h : Ieee.signed s m k ≠ 0) : s = decide (Ieee.signed s m k < 0) := by
  unfold Ieee.signed at *; rw [Nat.shiftLeft_eq] at *
  cases s
  · simp only [Bool.false_eq_true, if_false]; rw [decide_eq_false (by omega)]
  · simp only [if_true] at *; rw [decide_eq_true (by omega)]
theorem signed_dvd (s : Bool) (m : Nat) {k g : Nat} (h : g ≤ k) : ((2 ^ g : Nat) : Int) ∣ Ieee.signed s m k := by
  rw [Int.ofNat_dvd_left, signed_abs]
  exact Nat.dvd_trans (Nat.pow_dvd_pow 2 h) (Nat.dvd_mul_left _ _)
theorem cap_units {m k e : Nat} (hm : m < 2 ^ e) (h : k + e ≤ 1990) : m * 2 ^ k < 2 ^ capJ := by
  have h1 : m * 2 ^ k < 2 ^ e * 2 ^ k := Nat.mul_lt_mul_of_pos_right hm (Nat.two_pow_pos _)
  rw [← Nat.pow_add] at h1
  exact Nat.lt_of_lt_of_le h1 (Nat.pow_le_pow_right (by decide) (by unfold capJ; omega))
theorem units_log {n : Nat} (h : n < 2 ^ capJ) : n.log2 ≤ 2000 := cap_log (by omega)
/-- A whole number of few digits, in least units, is a word as it is. -/
theorem units_word {s : Bool} {m k : Nat} (hm : m < 2 ^ 53) (hk : k ≤ 1900) :
    rung64 (wordOf s (Ieee.signed s m k)) < 9218868437227405312 ∧ sgn64 (wordOf s (Ieee.signed s m k)) = s ∧ sval64 (wordOf s (Ieee.signed s m k)) = Ieee.signed s m k := by
  have hl : (Ieee.signed s m k).natAbs.log2 ≤ 2000 := by rw [signed_abs]; exact units_log (cap_units hm (by omega))
  obtain ⟨a, b, c, d⟩ := wordOf_facts (σ := s) hl signed_sign
  refine ⟨c, b, ?_⟩
  rw [d]
  refine RN_exact hl (signed_dvd s m (Nat.le_refl k)) ?_
  rw [signed_abs, Nat.pow_add]
  exact Nat.mul_lt_mul_of_pos_right hm (Nat.two_pow_pos _)
theorem plc_le32 {a : Nat} (h : rung32 a < 2139095040) : plc32 (rung32 a) ≤ 253 := by unfold plc32; omega
theorem wide_units {a : Nat} (h : rung32 a < 2139095040) : wideN a = wordOf (sgn32 a) (sampleZ a) := by
  unfold wideN wordOf sampleZ
  rw [read_fin32 h]
  show Ieee.double.nearest _ _ _ = _
  rw [nearest_rung, signed_abs, rung_scale, show (-1074 : Int) + ((plc32 (rung32 a) + 925 : Nat) : Int) = -149 + (plc32 (rung32 a) : Int) by omega]
theorem wide_fin {a : Nat} (h : rung32 a < 2139095040) : rung64 (wideN a) < 9218868437227405312 ∧ sgn64 (wideN a) = sgn32 a ∧ sval64 (wideN a) = sampleZ a := by
  rw [wide_units h]
  have hp := plc_le32 h
  have hm := mag_lt32 (rung32 a)
  exact units_word (by omega) (by omega)
theorem val_abs (x : Nat) : (sval64 x).natAbs = val64 (rung64 x) := by unfold sval64; split <;> omega

/-- A product of two samples in least units. -/
def prodZ (a b : Nat) : Int := Ieee.signed (sgn32 a ^^ sgn32 b) (mag32 (rung32 a) * mag32 (rung32 b)) (plc32 (rung32 a) + plc32 (rung32 b) + 776)
theorem prod_lt (a b : Nat) : mag32 (rung32 a) * mag32 (rung32 b) < 2 ^ 48 := by
  have h1 := mag_lt32 (rung32 a)
  have h2 := mag_lt32 (rung32 b)
  have a1 : mag32 (rung32 a) * mag32 (rung32 b) ≤ 16777215 * mag32 (rung32 b) := Nat.mul_le_mul_right _ (by omega)
  omega
theorem prod_units {a b : Nat} (ha : rung32 a < 2139095040) (hb : rung32 b < 2139095040) : floatBits .mul .f64 (wideN a) (wideN b) = some (wordOf (sgn32 a ^^ sgn32 b) (prodZ a b)) := by
  obtain ⟨r1, s1, v1⟩ := wide_fin ha
  obtain ⟨r2, s2, v2⟩ := wide_fin hb
  show ((Ieee.double.read (wideN a)).product (Ieee.double.read (wideN b))).map Ieee.double.write = _
  rw [read_fin64 r1, read_fin64 r2, s1, s2]
  show some (Ieee.double.nearest _ _ _) = _
  rw [nearest_rung]
  unfold wordOf prodZ
  rw [signed_abs]
  have w1 : mag64 (rung64 (wideN a)) * 2 ^ plc64 (rung64 (wideN a)) = mag32 (rung32 a) * 2 ^ (plc32 (rung32 a) + 925) := by
    have := val_abs (wideN a)
    rw [v1] at this
    unfold sampleZ at this
    rw [signed_abs] at this
    exact this.symm
  have w2 : mag64 (rung64 (wideN b)) * 2 ^ plc64 (rung64 (wideN b)) = mag32 (rung32 b) * 2 ^ (plc32 (rung32 b) + 925) := by
    have := val_abs (wideN b)
    rw [v2] at this
    unfold sampleZ at this
    rw [signed_abs] at this
    exact this.symm
  obtain ⟨E, hE⟩ : ∃ E : Nat, E = 1074 := ⟨_, rfl⟩
  have e : mag64 (rung64 (wideN a)) * mag64 (rung64 (wideN b)) * 2 ^ (plc64 (rung64 (wideN a)) + plc64 (rung64 (wideN b))) = mag32 (rung32 a) * mag32 (rung32 b) * 2 ^ (plc32 (rung32 a) + plc32 (rung32 b) + 776) * 2 ^ E := by
    have a1 : mag64 (rung64 (wideN a)) * mag64 (rung64 (wideN b)) * 2 ^ (plc64 (rung64 (wideN a)) + plc64 (rung64 (wideN b))) = (mag64 (rung64 (wideN a)) * 2 ^ plc64 (rung64 (wideN a))) * (mag64 (rung64 (wideN b)) * 2 ^ plc64 (rung64 (wideN b))) := by
      rw [Nat.pow_add, Nat.mul_mul_mul_comm]
    rw [a1, w1, w2, Nat.mul_mul_mul_comm, ← Nat.pow_add, Nat.mul_assoc (mag32 (rung32 a) * mag32 (rung32 b)), ← Nat.pow_add]
    congr 2; omega
  have k1 := rung_scale Ieee.double (mag64 (rung64 (wideN a)) * mag64 (rung64 (wideN b))) (plc64 (rung64 (wideN a)) + plc64 (rung64 (wideN b))) (-2148)
  rw [e, rung_scale, show (-2148 : Int) + (E : Int) = -1074 by omega] at k1
  have e4 : (-1074 : Int) + (plc64 (rung64 (wideN a)) : Int) + (-1074 + (plc64 (rung64 (wideN b)) : Int)) = -2148 + ((plc64 (rung64 (wideN a)) + plc64 (rung64 (wideN b)) : Nat) : Int) := by omega
  rw [e4, ← k1]

theorem rung_pos {M : Nat} (h : M ≠ 0) : 0 < rne M (lostK M) := by
  rcases Nat.eq_zero_or_pos (lostK M) with g | g
  · rw [g, rne_zero]; omega
  · have := (kept_bd (M := M)).2 g; omega
theorem stick_bd {M : Nat} (hK : 0 < lostK M) : 4503599627370496 ≤ stick M (lostK M + 1) ∧ stick M (lostK M + 1) ≤ 9007199254740992 := by
  have h0 : M ≠ 0 := by intro h0; subst h0; exact absurd hK (by decide)
  have h1 := Nat.log2_self_le h0
  have h2 : M < 2 ^ (M.log2 + 1) := Nat.lt_log2_self
  have e : M.log2 = 52 + lostK M := by unfold lostK at *; omega
  rw [e] at h1 h2
  have a1 : 2 ^ 51 ≤ M / 2 ^ (lostK M + 1) := by
    rw [Nat.le_div_iff_mul_le (Nat.two_pow_pos _), ← Nat.pow_add, show 51 + (lostK M + 1) = 52 + lostK M by omega]; exact h1
  have a2 : M / 2 ^ (lostK M + 1) < 2 ^ 52 := by
    rw [Nat.div_lt_iff_lt_mul (Nat.two_pow_pos _), ← Nat.pow_add, show 52 + (lostK M + 1) = 52 + lostK M + 1 by omega]; exact h2
  unfold stick
  split <;> omega
/-- The sum made odd, as a word. -/
theorem odd_word {σ : Bool} {Z : Int} {l : Nat} (hZ : Z.natAbs.log2 ≤ 2000) (h0 : Z ≠ 0) (hσ : σ = decide (Z < 0)) (hl : rung64 l < 9218868437227405312) (vl : sval64 l = Z - RN Z) :
    ∃ R, oddV (wordOf σ Z) l = Ieee.double.word σ R ∧ R < 9218868437227405312 ∧ rungOf Ieee.single (val64 R) (-1074) = rungOf Ieee.single Z.natAbs (-1074) := by
  obtain ⟨f1, f2, f3, f4⟩ := wordOf_facts (σ := σ) hZ (fun _ => hσ)
  obtain ⟨M, hM⟩ : ∃ M, M = Z.natAbs := ⟨_, rfl⟩
  have hM0 : M ≠ 0 := by omega
  have hR := RN_abs Z
  rw [← hM] at hZ hR
  rw [vN_eq hZ] at hR
  have hsg : RN Z < 0 ↔ Z < 0 := by
    unfold RN
    rw [← hM, vN_eq hZ]
    have := Nat.mul_pos (rung_pos hM0) (Nat.two_pow_pos (lostK M))
    generalize rne M (lostK M) * 2 ^ lostK M = V at this
    split <;> omega
  have hc := kept_bd (M := M)
  have hc0 := rung_pos hM0
  have es : wordOf σ Z = σ.toNat * 9223372036854775808 + (lostK M * 4503599627370496 + rne M (lostK M)) := by
    unfold wordOf
    rw [← hM, word64, rung64_eq hZ]
  have hst := odd_stick M
  have eo : oddV (wordOf σ Z) l = σ.toNat * 9223372036854775808 + (lostK M * 4503599627370496 + (if rne M (lostK M) % 2 = 1 ∨ rne M (lostK M) * 2 ^ lostK M = M then rne M (lostK M) else if rne M (lostK M) * 2 ^ lostK M < M then rne M (lostK M) + 1 else rne M (lostK M) - 1)) := by
    unfold oddV
    have c1 : (wordOf σ Z % 2 = 1 ∨ rung64 l = 0) ↔ (rne M (lostK M) % 2 = 1 ∨ rne M (lostK M) * 2 ^ lostK M = M) := by
      have d1 : wordOf σ Z % 2 = 1 ↔ rne M (lostK M) % 2 = 1 := by rw [es]; omega
      have d2 : rung64 l = 0 ↔ rne M (lostK M) * 2 ^ lostK M = M := by
        rw [← sval_zero, vl]
        generalize rne M (lostK M) * 2 ^ lostK M = V at hR
        omega
      rw [d1, d2]
    by_cases h1 : rne M (lostK M) % 2 = 1 ∨ rne M (lostK M) * 2 ^ lostK M = M
    · rw [if_pos (c1.2 h1), if_pos h1, es]
    · rw [if_neg (fun h => h1 (c1.1 h)), if_neg h1]
      have c2 : ((Ieee.double.order l 0 == some Ordering.lt) = (Ieee.double.order (wordOf σ Z) 0 == some Ordering.lt)) ↔ rne M (lostK M) * 2 ^ lostK M < M := by
        rw [order_neg hl, order_neg f3, vl, f4, decide_eq_decide]
        have h2 : ¬ rne M (lostK M) * 2 ^ lostK M = M := fun h => h1 (Or.inr h)
        generalize rne M (lostK M) * 2 ^ lostK M = V at hR h2
        omega
      by_cases h3 : rne M (lostK M) * 2 ^ lostK M < M
      · rw [if_pos (c2.2 h3), if_pos h3, es]; omega
      · rw [if_neg (fun h => h3 (c2.1 h)), if_neg h3, es]; omega
  rw [hst] at eo
  have hk : lostK M ≤ 1948 := by unfold lostK; omega
  rcases Nat.eq_zero_or_pos (lostK M) with g | g
  · have e1 : stick M (lostK M + 1) = M := by
      rw [g]; unfold stick
      rw [show 0 + 1 = 1 from rfl, Nat.pow_one]
      split <;> omega
    have hb : M ≤ 9007199254740992 := by
      have h2 : M < 2 ^ (M.log2 + 1) := Nat.lt_log2_self
      have : 2 ^ (M.log2 + 1) ≤ 2 ^ 53 := Nat.pow_le_pow_right (by decide) (by unfold lostK at g; omega)
      omega
    refine ⟨lostK M * 4503599627370496 + stick M (lostK M + 1), ?_, ?_, ?_⟩
    · rw [eo, word64]
    · rw [e1]; omega
    · rw [e1, val_of hb (by omega), g, Nat.pow_zero, Nat.mul_one, hM]
  · obtain ⟨s1, s2⟩ := stick_bd g
    refine ⟨lostK M * 4503599627370496 + stick M (lostK M + 1), ?_, ?_, ?_⟩
    · rw [eo, word64]
    · omega
    · rw [val_of s2 (fun _ => s1), stick_rung hZ g, hM]
end Go.Proofs.Ytdbbpmadkhedlaa
/- What package arith's Fma returns: of numbers without an answer, and of others by its steps in binary64; what was in memory stays as it was. -/
namespace Go.Proofs.Ytdbbpmadkhedlaa
open Go.RowKit

theorem go_mul1 (a : Nat) (u : World) (y : Nat) (w : World) : (binOp .mul 100 (.float .f64 (nanc .f64 a u)) (.float .f64 y)).run Try.prog w = .ok (.float .f64 (nanw .f64 (nanc .f64 a u) y w)) w.drew :=
  run_arith_none .mul (by simp) 100 .f64 _ y (mul_nan1 (nanc64 a u).1 y) Try.prog w
theorem go_mul2 (a : Nat) (u : World) (x : Nat) (w : World) : (binOp .mul 100 (.float .f64 x) (.float .f64 (nanc .f64 a u))).run Try.prog w = .ok (.float .f64 (nanw .f64 x (nanc .f64 a u) w)) w.drew :=
  run_arith_none .mul (by simp) 100 .f64 x _ (mul_nan2 (nanc64 a u).1 x) Try.prog w
theorem wide_nan {a : Nat} (h : nanN a = true) (w : World) : (convert 115 100 (.float .f32 a)).run Try.prog w = .ok (.float .f64 (nanc .f64 a w)) w.drew :=
  run_conv_nan (P := Try.prog) 115 100 .f32 .f64 a (by decide) (by kernel_rfl) Try.underlying100 (read32_nan h) w
theorem wide_num {a : Nat} (h : nanN a = false) (w : World) : (convert 115 100 (.float .f32 a)).run Try.prog w = .ok (.float .f64 (wideN a)) w :=
  run_convert_float_float (P := Try.prog) w 115 100 .f32 .f64 a _ (by kernel_rfl) Try.underlying100 (wide_conv h)

end Go.Proofs.Ytdbbpmadkhedlaa
/- What package arith's Fma returns of whatever samples: the exact product and sum, rounded once. -/
namespace Go.Proofs.Ytdbbpmadkhedlaa
open Go.RowKit

/-- The exact number of a product and a sum. -/
def fmaD (a b c : Nat) : Option Ieee.Datum := ((Ieee.single.read a).product (Ieee.single.read b)).bind fun d => d.sum (Ieee.single.read c)

theorem wide_read_inf {a : Nat} (h : rung32 a = 2139095040) : Ieee.double.read (wideN a) = .infinity (sgn32 a) := by rw [wide_inf h, read_winf64]
theorem fin_num {a : Nat} (h : rung32 a < 2139095040) : nanN a = false := by rw [nanN_rung]; exact decide_eq_false (by omega)
theorem inf_num {a : Nat} (h : rung32 a = 2139095040) : nanN a = false := by rw [nanN_rung]; exact decide_eq_false (by omega)
theorem wide_mag_zero {a : Nat} (h : rung32 a < 2139095040) : mag64 (rung64 (wideN a)) = 0 ↔ mag32 (rung32 a) = 0 := by
  obtain ⟨r, s, v⟩ := wide_fin h
  have e := val_abs (wideN a)
  rw [v] at e
  unfold sampleZ val64 at e
  rw [signed_abs] at e
  have p1 := Nat.two_pow_pos (plc32 (rung32 a) + 925)
  have p2 := Nat.two_pow_pos (plc64 (rung64 (wideN a)))
  constructor
  · intro h0
    rw [h0, Nat.zero_mul] at e
    rcases Nat.mul_eq_zero.1 e with k | k
    · exact k
    · omega
  · intro h0
    rw [h0, Nat.zero_mul] at e
    rcases Nat.mul_eq_zero.1 e.symm with k | k
    · exact k
    · omega

theorem told_inf (σ : Bool) : toldD (some (Ieee.double.read (Ieee.double.word σ 9218868437227405312))) = Ieee.single.word σ 2139095040 := by
  rw [read_winf64]
  show Ieee.single.word σ Ieee.single.infRung = _
  rw [inf32]
theorem inf_even (σ : Bool) : Ieee.double.word σ 9218868437227405312 % 2 = 0 ∧ Ieee.double.word σ 9218868437227405312 < 18446744073709551616 := by
  rw [word64]; have := Bool.toNat_lt σ; omega
theorem sub_inf_inf (σ : Bool) : floatBits .sub .f64 (Ieee.double.word σ 9218868437227405312) (Ieee.double.word σ 9218868437227405312) = none := by
  show ((Ieee.double.read _).sum (Ieee.double.read _).opposite).map _ = none
  rw [read_winf64]
  cases σ <;> rfl
theorem write_inf (σ : Bool) : Ieee.double.write (.infinity σ) = Ieee.double.word σ 9218868437227405312 := by
  show Ieee.double.word σ Ieee.double.infRung = _
  rw [inf64]

end Go.Proofs.Ytdbbpmadkhedlaa
