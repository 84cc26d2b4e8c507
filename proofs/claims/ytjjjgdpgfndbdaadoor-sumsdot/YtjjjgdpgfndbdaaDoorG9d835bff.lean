/- Sums of products with weights: the program's. -/
import Derived.Test.YtjjjgdpgfndbdaaDoorGd4da2c98
namespace Go.Proofs.YtjjjgdpgfndbdaaDoor
open Go.RowKit
set_option linter.unusedVariables false
set_option linter.unusedSimpArgs false

theorem sum64_nan2 {d' : Ieee.Datum} (h : d'.isNaN = true) (d : Ieee.Datum) : told64 (d.sum d') = 9221120237041090560 := by
  obtain ⟨s, t, rfl⟩ := isNaN_cases h
  cases d <;> rfl
theorem can_sum_r (W X : Nat) : add64V W (canW X) = add64V W X := by
  unfold canW
  cases h : nan64 X
  · rfl
  · rw [if_pos rfl]
    unfold add64V
    rw [sum64_nan2 (read64_nan h), sum64_nan2 (read64_nan made64)]
/-- The products of weights and samples. -/
def prods (W : List Int) (S : List Nat) : List Nat := (List.range S.length).map fun i => prodV (W.getD i 0) (S.getD i 0)
theorem prods_length (W : List Int) (S : List Nat) : (prods W S).length = S.length := by unfold prods; simp
theorem prods_at (W : List Int) (S : List Nat) {i : Nat} (h : i < S.length) : (prods W S).getD i 0 = prodV (W.getD i 0) (S.getD i 0) := by
  unfold prods
  rw [List.getD_eq_getElem?_getD, List.getElem?_map, List.getElem?_range h]
  rfl
set_option maxHeartbeats 4000000 in
set_option maxRecDepth 100000 in
theorem dot_gen (vw vl : Value) (W : List Int) (S : List Nat) (w : World) (hw : ISl w vw W) (hl : USl w vl S) (hn : S.length ≤ 35184372087808) (he : W.length = S.length) (hb : ∀ i, S.getD i 0 < 4294967296)
    (hW : ∀ i, i < W.length → W.getD i 0 ≤ 268435456 ∧ -268435456 ≤ W.getD i 0) :
    Calls Tryd.prog 48 #[vw, vl] w fun e w' => ∃ X : Nat, e = .returned (.tuple #[.float .f64 X, .int .i64 0]) ∧ X < 18446744073709551616 ∧ canW X = dotF (prods W S) ∧ Q w w' := by
  obtain ⟨Ps, hPs⟩ : ∃ Ps, prods W S = Ps := ⟨_, rfl⟩
  have hP : Ps.length = S.length := by rw [← hPs]; exact prods_length W S
  have hp : ∀ i, i < S.length → Ps.getD i 0 = prodV (W.getD i 0) (S.getD i 0) := fun i hi => by rw [← hPs]; exact prods_at W S hi
  rw [hPs]
  clear hPs
  obtain ⟨aw, cw, rfl⟩ := hw.form
  obtain ⟨al, cl, rfl⟩ := hl.form
  have hn' : W.length ≤ 35184372087808 := by rw [he]; exact hn
  have ne0 : ((W.length : Int) != (S.length : Int)) = false := by rw [he]; simp
  have HS : Hid (USl w (.slice al S.length cl) S) := hl
  have HI : Hid (ISl w (.slice aw W.length cw) W) := hw
  have HB : Hid (∀ i, S.getD i 0 < 4294967296) := hb
  have HW : Hid _ := hW
  have HP : Hid _ := hp
  have HE : Hid (W.length = S.length) := he
  have HL : Hid (Ps.length = S.length) := hP
  clear hl hw hb hW hp he hP
  go_enter Tryd.func48, Tryd.ntmps48
  go_wp2_with fail
  go_loopg [19] (W.length) (fun gh s19 wr => ∃ i : Nat, s19 = .int .i64 (i : Int) ∧ i ≤ W.length ∧ gh = W.length - i ∧ wr = w)
  case atStart => exact ⟨0, rfl, by omega, rfl, rfl⟩
  case round =>
    obtain ⟨i, rfl, hi, rfl, rfl⟩ := hrel
    by_cases hlt : i < W.length
    · obtain ⟨g, o, cap', hsl, hI⟩ := HI.out.some (by omega)
      injection hsl with hs1 hs2 hs3
      subst hs1 hs3
      clear hs2
      have hc := hI i hlt
      obtain ⟨h1, h2⟩ := HW.out i hlt
      have h1' : ¬ 268435456 < W.getD i 0 := by omega
      have h2' : ¬ W.getD i 0 < -268435456 := by omega
      generalize W.getD i 0 = x at *
      clear hI h1 h2
      go_wp2_with fail
      go_roundg (W.length - (i + 1))
      case measure => go_light; omega
      case rel => go_light; exact ⟨i + 1, by simp, by omega, rfl, rfl⟩
    · obtain rfl : i = W.length := by omega
      have hge : ¬ (W.length : Int) < (W.length : Int) := by omega
      by_cases h0 : S.length = 0
      · have b0 : ((S.length : Int) == 0) = true := by rw [h0]; rfl
        have HF : Hid (dotF Ps = 0) := by
          show dotF Ps = 0
          rw [List.eq_nil_of_length_eq_zero (HL.out.trans h0)]; rfl
        clear h0
        go_wp2_with fail
        go_ret2
        exact ⟨0, rfl, by decide, by rw [HF.out]; decide +kernel, Q.refl _⟩
      · have b0 : ((S.length : Int) == 0) = false := by rw [beq_eq_false_iff_ne]; omega
        have HF : Hid (dotF Ps = Ps.foldl add64V 9223372036854775808) := by
          show dotF Ps = _
          unfold dotF
          rw [if_neg (fun e => h0 (by rw [← HL.out, e]; rfl))]
        clear h0
        go_wp2_with fail
        refine (copysign_any _).mono ?_
        rintro e w0 ⟨rfl, rfl⟩
        go_wp2_with fail
        go_loopg [8, 36] (S.length) (fun gh s8 s36 wr => ∃ i X : Nat, s8 = .float .f64 X ∧ Hid (canW X = (Ps.take i).foldl add64V 9223372036854775808) ∧ X < 18446744073709551616 ∧ s36 = .int .i64 (i : Int) ∧ i ≤ S.length ∧ gh = S.length - i ∧ Q w0 wr)
        case atStart => exact ⟨0, 9223372036854775808, rfl, (show canW 9223372036854775808 = 9223372036854775808 by decide +kernel), by decide, rfl, by omega, rfl, Q.refl _⟩
        case round =>
          obtain ⟨i, X, rfl, HX, hX, rfl, hi2, rfl, qr⟩ := hrel
          by_cases hlt : i < S.length
          · obtain ⟨g, o, cap', hsl, hcap, hI⟩ := HS.out.some (by omega)
            injection hsl with hs1 hs2 hs3
            subst hs1 hs3
            clear hs2
            have hwi : i < W.length := by rw [HE.out]; exact hlt
            have hwi' : (i : Int) < (W.length : Int) := by omega
            obtain ⟨g2, o2, cap2, hsl2, hI2⟩ := HI.out.some (by omega)
            injection hsl2 with hs1 hs2 hs3
            subst hs1 hs3
            clear hs2
            have hc := qr.cell (hI i hlt)
            have hc2 := qr.cell (hI2 i hwi)
            have hx := HB.out i
            have hpi := HP.out i hlt
            have HFo : Hid ((Ps.take (i + 1)).foldl add64V 9223372036854775808 = add64V ((Ps.take i).foldl add64V 9223372036854775808) (Ps.getD i 0)) := take_succ_foldl _ _ _ _ (by rw [HL.out]; exact hlt)
            have HQ : Hid (Q w0 wr) := qr
            generalize S.getD i 0 = x at *
            generalize W.getD i 0 = y at *
            generalize Ps.getD i 0 = p at *
            have hpi : p = prodV y x := hpi
            subst hpi
            have HC : Hid (∀ P X', canW P = prodV y x → canW X' = add64V X P → canW X' = (Ps.take (i + 1)).foldl add64V 9223372036854775808) := fun P X' hP h => by rw [HFo.out, ← HX.out, can_sum, ← hP, can_sum_r]; exact h
            clear qr HFo HX hI hI2
            go_wp2_with fail
            refine regionD5 (gb := g2) (ob := o2) (ib := i) (Lw := W.length) (cap := cw) (y := y) (s := x) rfl rfl ⟨rfl, rfl, rfl, hwi, hc2, hx⟩ ?_
            intro w4 p hq4 hp64 hcP
            rw [normD5]
            have HCP : Hid (canW p = prodV y x) := hcP
            clear hcP hc hc2
            cases hd : (Ieee.double.read X).sum (Ieee.double.read p) with
            | none =>
              have hf : floatBits .add .f64 X p = none := by
                show ((Ieee.double.read X).sum (Ieee.double.read p)).map Ieee.double.write = none
                rw [hd]; rfl
              have l2 := fun w => run_arith_none .add (by simp) 60 .f64 X p hf Tryd.prog w
              have HE2 : Hid (add64V X p = 9221120237041090560) := by show add64V X p = _; unfold add64V; rw [hd]; rfl
              clear hd hf
              go_wp2_with fail
              go_roundg (S.length - (i + 1))
              case measure => go_light; omega
              case rel =>
                go_light
                exact ⟨i + 1, _, rfl, HC.out _ _ HCP.out (by rw [HE2.out]; exact can_none _ _ _), (nanw64 _ _ _).2, by simp, by omega, rfl, (HQ.out.trans hq4).drew⟩
            | some d =>
              have hf : floatBits .add .f64 X p = some (Ieee.double.write d) := by
                show ((Ieee.double.read X).sum (Ieee.double.read p)).map Ieee.double.write = _
                rw [hd]; rfl
              have l2 := fun w => run_float_arith (P := Tryd.prog) w .add 60 .f64 X p _ hf
              have HE2 : Hid (add64V X p = told64 (some d)) := by show add64V X p = _; unfold add64V; rw [hd]
              have HD : Hid (d.isNaN = false) := sum_num hd
              clear hd hf
              go_wp2_with fail
              go_roundg (S.length - (i + 1))
              case measure => go_light; omega
              case rel =>
                go_light
                exact ⟨i + 1, _, rfl, HC.out _ _ HCP.out (by rw [HE2.out]; exact can_some HD.out), write64_lt _, by simp, by omega, rfl, HQ.out.trans hq4⟩
          · obtain rfl : i = S.length := by omega
            have hge2 : ¬ (S.length : Int) < (S.length : Int) := by omega
            have HQ : Hid (Q w0 wr) := qr
            have HZ : Hid (canW X = dotF Ps) := by
              show canW X = dotF Ps
              rw [HF.out, HX.out, ← HL.out, List.take_of_length_le (Nat.le_refl _)]
            clear qr HX
            go_wp2_with fail
            go_ret2
            exact ⟨X, rfl, hX, HZ.out, HQ.out⟩
set_option maxHeartbeats 2000000 in
theorem dot_bad (vw vl : Value) (W : List Int) (S : List Nat) (w : World) (hw : ISl w vw W) (hl : USl w vl S) (hn : S.length ≤ 35184372087808) (he : W.length = S.length) (hW : ¬ ∀ i, i < W.length → W.getD i 0 ≤ 268435456 ∧ -268435456 ≤ W.getD i 0) :
    Calls Tryd.prog 48 #[vw, vl] w fun e w' => e = .returned (.tuple #[.float .f64 0, .int .i64 32]) ∧ w' = w := by
  obtain ⟨aw, cw, rfl⟩ := hw.form
  obtain ⟨al, cl, rfl⟩ := hl.form
  have hn' : W.length ≤ 35184372087808 := by rw [he]; exact hn
  have ne0 : ((W.length : Int) != (S.length : Int)) = false := by rw [he]; simp
  have HI : Hid (ISl w (.slice aw W.length cw) W) := hw
  have HW : Hid _ := hW
  clear hl hw hW he
  go_enter Tryd.func48, Tryd.ntmps48
  go_wp2_with fail
  go_loopg [19] (W.length) (fun gh s19 wr => ∃ i : Nat, s19 = .int .i64 (i : Int) ∧ i ≤ W.length ∧ gh = W.length - i ∧ Hid (∀ j, j < i → W.getD j 0 ≤ 268435456 ∧ -268435456 ≤ W.getD j 0) ∧ wr = w)
  case atStart => exact ⟨0, rfl, by omega, rfl, fun j hj => absurd hj (Nat.not_lt_zero _), rfl⟩
  case round =>
    obtain ⟨i, rfl, hi, rfl, HG, rfl⟩ := hrel
    by_cases hlt : i < W.length
    · obtain ⟨g, o, cap', hsl, hI⟩ := HI.out.some (by omega)
      injection hsl with hs1 hs2 hs3
      subst hs1 hs3
      clear hs2
      have hc := hI i hlt
      obtain ⟨x, hx⟩ : ∃ x, W.getD i 0 = x := ⟨_, rfl⟩
      rw [hx] at hc
      have HX : Hid (W.getD i 0 = x) := hx
      clear hI hx
      by_cases h1 : 268435456 < x
      · go_wp2_with fail
        go_ret2
        exact ⟨rfl, rfl⟩
      · by_cases h2 : x < -268435456
        · go_wp2_with fail
          go_ret2
          exact ⟨rfl, rfl⟩
        · go_wp2_with fail
          go_roundg (W.length - (i + 1))
          case measure => go_light; omega
          case rel =>
            go_light
            refine ⟨i + 1, by simp, by omega, rfl, fun j hj => ?_, rfl⟩
            rcases Nat.lt_or_ge j i with g' | g'
            · exact HG.out j g'
            · obtain rfl : j = i := by omega
              rw [HX.out]
              omega
    · exfalso
      exact HW.out (fun j hj => HG.out j (by omega))
set_option maxHeartbeats 1000000 in
theorem dot64_err {vw vl : Value} {w : World} {E : Int} (hE : (E != 0) = true) (H : Calls Tryd.prog 48 #[vw, vl] w fun e w' => e = .returned (.tuple #[.float .f64 0, .int .i64 E]) ∧ w' = w) :
    Calls Tryd.prog 22 #[vw, vl] w fun e w' => e = .returned (.tuple #[.int .u64 0, .int .i64 E]) ∧ w' = w := by
  have HD : Hid _ := H
  clear H
  go_enter Tryd.func22, Tryd.ntmps22
  go_wp2_with fail
  refine Calls.mono HD.out ?_
  rintro e w1 ⟨rfl, rfl⟩
  go_wp2_with fail
  go_ret2
  exact ⟨rfl, rfl⟩
set_option maxHeartbeats 1000000 in
theorem dot_err {vw vl : Value} {w : World} {E : Int} (hE : (E != 0) = true) (H : Calls Tryd.prog 48 #[vw, vl] w fun e w' => e = .returned (.tuple #[.float .f64 0, .int .i64 E]) ∧ w' = w) :
    Calls Tryd.prog 24 #[vw, vl] w fun e w' => e = .returned (.tuple #[.int .u32 0, .int .i64 E]) ∧ w' = w := by
  have HD : Hid _ := H
  clear H
  go_enter Tryd.func24, Tryd.ntmps24
  go_wp2_with fail
  refine Calls.mono HD.out ?_
  rintro e w1 ⟨rfl, rfl⟩
  go_wp2_with fail
  go_ret2
  exact ⟨rfl, rfl⟩
end Go.Proofs.YtjjjgdpgfndbdaaDoor
