/- The document's sums of products with weights, in binary64. -/
import Derived.Test.YtjjjgdpgfndbdaaDoorG8610f6e9
namespace Go.Proofs.YtjjjgdpgfndbdaaDoor
open Go.RowKit
set_option linter.unusedVariables false
set_option linter.unusedSimpArgs false

theorem lost_val (r : Nat) : lostK (val64 r) = plc64 r := by
  have hm := mag_lt64 r
  unfold lostK val64
  by_cases h : 0 < plc64 r
  · have hg := mag_ge64 h
    have e := log2_shift (o := mag64 r) (L := 52) (k := plc64 r) hg hm
    rw [e]
    omega
  · have e : plc64 r = 0 := by omega
    rw [e, Nat.pow_zero, Nat.mul_one]
    by_cases h0 : mag64 r = 0
    · rw [h0]; decide
    · have := (Nat.log2_lt h0).2 (show mag64 r < 2 ^ 53 from hm)
      omega
/-- A rung is the rung of its value. -/
theorem rung_val64 {r : Nat} (h : r < 9218868437227405312) : rungOf Ieee.double (val64 r) (-1074) = r := by
  by_cases h0 : val64 r = 0
  · rw [h0, rungOf_zero]
    rcases Nat.eq_zero_or_pos r with g | g
    · exact g.symm
    · have := val_pos64 g; omega
  · unfold rungOf
    rw [if_neg h0]
    have e0 := lost_val r
    have e1 : lastOf Ieee.double (val64 r) (-1074) = -1074 + (plc64 r : Int) := by
      unfold lastOf
      unfold lostK at e0
      rw [least64, frac64]
      omega
    have e2 : (-1074 + (plc64 r : Int) - -1074).toNat = plc64 r := by omega
    have e3 : (-1074 : Int) - (-1074 + (plc64 r : Int)) = -(plc64 r : Int) := by omega
    have e4 : rne (val64 r) (plc64 r) = mag64 r := rne_exact _ _
    have e5 : plc64 r * 4503599627370496 + mag64 r = r := by unfold mag64 plc64; omega
    rw [e1, least64, binade64, inf64, e2, e3, rz_neg, e4, e5]
    omega
/-- Nothing and one number. -/
theorem first_num {X : Nat} (hX : X < 18446744073709551616) (hn : nan64 X = false) : add64V 9223372036854775808 X = X := by
  have hr : rung64 X ≤ 9218868437227405312 := by
    rw [nan64_rung] at hn
    have := of_decide_eq_false hn
    omega
  rcases Nat.lt_or_ge (rung64 X) 9218868437227405312 with fa | fa
  · have h := add_fin (x := 9223372036854775808) (y := X) (by decide) fa
    have hz : sval64 9223372036854775808 = 0 := by decide +kernel
    have hs : sgn64 9223372036854775808 = true := by decide
    rw [hz, hs, Int.zero_add] at h
    have e : wordOf (sg true (sgn64 X) (sval64 X)) (sval64 X) = X := by
      unfold wordOf
      rw [val_abs, rung_val64 fa]
      refine Eq.trans ?_ (word_of64 hX).symm
      congr 1
      unfold sg sval64
      cases sgn64 X
      · simp only [Bool.false_eq_true, if_false]
        split
        · rfl
        · exact decide_eq_false (by omega)
      · simp only [if_true]
        split
        · rfl
        · exact decide_eq_true (by omega)
    rw [e] at h
    have h' : ((Ieee.double.read 9223372036854775808).sum (Ieee.double.read X)).map Ieee.double.write = some X := h
    unfold add64V
    cases hd : (Ieee.double.read 9223372036854775808).sum (Ieee.double.read X) with
    | none => rw [hd] at h'; cases h'
    | some d =>
      rw [hd] at h'
      rw [told64_some (sum_num hd)]
      exact Option.some.inj h'
  · have fa : rung64 X = 9218868437227405312 := by omega
    unfold add64V
    rw [read_inf64 fa]
    have e : (Ieee.double.read 9223372036854775808).sum (.infinity (sgn64 X)) = some (.infinity (sgn64 X)) := by
      rw [show Ieee.double.read 9223372036854775808 = .number true 0 (-1074) by decide +kernel]; rfl
    rw [e, told64_some rfl, write_inf, ← fa]
    exact (word_of64 hX).symm
theorem told64_lt (o : Option Ieee.Datum) : told64 o < 18446744073709551616 := by
  cases o with
  | none => decide
  | some d =>
    cases d with
    | nan s t => show 9221120237041090560 < _; decide
    | infinity s => rw [told64_some rfl]; exact write64_lt _
    | number s m p => rw [told64_some rfl]; exact write64_lt _
theorem first_told (o : Option Ieee.Datum) : add64V 9223372036854775808 (told64 o) = told64 o := by
  cases o with
  | none => show add64V 9223372036854775808 9221120237041090560 = 9221120237041090560; decide +kernel
  | some d =>
    cases d with
    | nan s t => show add64V 9223372036854775808 9221120237041090560 = 9221120237041090560; decide +kernel
    | infinity s => rw [told64_some rfl]; exact first_num (write64_lt _) (nan64_write rfl)
    | number s m p => rw [told64_some rfl]; exact first_num (write64_lt _) (nan64_write rfl)
theorem prodV_lt (y : Int) (s : Nat) : prodV y s < 18446744073709551616 := told64_lt _
theorem first_prod (y : Int) (s : Nat) : add64V 9223372036854775808 (prodV y s) = prodV y s := first_told _
theorem dotF_pos {l : List Nat} (h : 0 < l.length) : dotF l = l.foldl add64V 9223372036854775808 := by
  unfold dotF
  rw [if_neg (fun e => by rw [e] at h; cases h)]
set_option maxHeartbeats 4000000 in
set_option maxRecDepth 100000 in
theorem rdot64_any (vw vl : Value) (W : List Int) (S : List Nat) (w : World) (hw : ISl w vw W) (hl : USl w vl S) (hn : S.length ≤ 35184372087808) (he : W.length = S.length) (hb : ∀ i, S.getD i 0 < 4294967296)
    (hW : ∀ i, i < W.length → W.getD i 0 ≤ 268435456 ∧ -268435456 ≤ W.getD i 0) :
    Calls Tryd.prog 23 #[vw, vl] w fun e w' => e = .returned (.tuple #[.int .u64 (dotF (prods W S) : Nat), .int .i64 0]) ∧ Q w w' := by
  obtain ⟨Ps, hPs⟩ : ∃ Ps, prods W S = Ps := ⟨_, rfl⟩
  have hP : Ps.length = S.length := by rw [← hPs]; exact prods_length W S
  have hp : ∀ i, i < S.length → Ps.getD i 0 = prodV (W.getD i 0) (S.getD i 0) := fun i hi => by rw [← hPs]; exact prods_at W S hi
  rw [hPs]
  clear hPs
  obtain ⟨aw, cw, rfl⟩ := hw.form
  obtain ⟨al, cl, rfl⟩ := hl.form
  have hn' : W.length ≤ 35184372087808 := by rw [he]; exact hn
  have ne0 : ((W.length : Int) != (S.length : Int)) = false := by rw [he]; simp
  have HS : Hid (USl w (.slice al S.length cl) S) := hl
  have HI : Hid (ISl w (.slice aw W.length cw) W) := hw
  have HB : Hid (∀ i, S.getD i 0 < 4294967296) := hb
  have HW : Hid (∀ i, i < W.length → W.getD i 0 ≤ 268435456 ∧ -268435456 ≤ W.getD i 0) := hW
  have HP : Hid (∀ i, i < S.length → Ps.getD i 0 = prodV (W.getD i 0) (S.getD i 0)) := hp
  have HE : Hid (W.length = S.length) := he
  have HL : Hid (Ps.length = S.length) := hP
  clear hl hw hb hW hp he hP
  go_enter Tryd.func23, Tryd.ntmps23
  go_wp2_with fail
  go_loopg [6] (W.length) (fun gh s6 wr => ∃ i : Nat, s6 = .int .i64 (i : Int) ∧ i ≤ W.length ∧ gh = W.length - i ∧ w = wr)
  case atStart => exact ⟨0, rfl, by omega, rfl, rfl⟩
  case round =>
    obtain ⟨i, rfl, hi, rfl, rfl⟩ := hrel
    by_cases hlt : i < W.length
    · obtain ⟨g, o, cap', hsl, hI⟩ := HI.out.some (by omega)
      injection hsl with hs1 hs2 hs3
      subst hs1 hs3
      clear hs2
      have hc := hI i hlt
      obtain ⟨h1, h2⟩ := HW.out i hlt
      have h1' : ¬ 268435456 < W.getD i 0 := by omega
      have h2' : ¬ W.getD i 0 < -268435456 := by omega
      generalize W.getD i 0 = x at *
      clear hI h1 h2
      go_wp2_with fail
      go_roundg (W.length - (i + 1))
      case measure => go_light; omega
      case rel => go_light; exact ⟨i + 1, by simp, by omega, rfl, rfl⟩
    · obtain rfl : i = W.length := by omega
      have hge : ¬ (W.length : Int) < (W.length : Int) := by omega
      go_wp2_with fail
      refine (f64_any _).mono ?_
      rintro e w0 ⟨rfl, q0⟩
      have HQ0 : Hid (Q w w0) := q0
      clear q0
      go_wp2_with fail
      go_loopg [8, 9] (S.length) (fun gh s8 s9 wr => ∃ i A : Nat, s8 = .int .u64 (A : Nat) ∧ Hid (A = if i = 0 then 0 else (Ps.take i).foldl add64V 9223372036854775808) ∧ A < 18446744073709551616 ∧ s9 = .int .i64 (i : Int) ∧ i ≤ S.length ∧ gh = S.length - i ∧ Q w wr ∧ FBox wr w0.heap.size)
      case atStart => exact ⟨0, 0, rfl, rfl, by decide, rfl, by omega, rfl, HQ0.out.cells _ _, ⟨by simp [go_sem], by simp [go_sem]⟩⟩
      case round =>
        obtain ⟨i, A, rfl, HA, hA, rfl, hi2, rfl, qr, fb⟩ := hrel
        have HQ : Hid (Q w wr) := qr
        have HFB : Hid (FBox wr w0.heap.size) := fb
        clear fb
        by_cases hlt : i < S.length
        · obtain ⟨g, o, cap', hsl, hcap, hI⟩ := HS.out.some (by omega)
          injection hsl with hs1 hs2 hs3
          subst hs1 hs3
          clear hs2
          have hwi : i < W.length := by rw [HE.out]; exact hlt
          have hwi' : (i : Int) < (W.length : Int) := by omega
          obtain ⟨g2, o2, cap2, hsl2, hI2⟩ := HI.out.some (by omega)
          injection hsl2 with hs1 hs2 hs3
          subst hs1 hs3
          clear hs2
          have hc := qr.cell (hI i hlt)
          have hc2 := qr.cell (hI2 i hwi)
          have hx := HB.out i
          obtain ⟨y0, y1⟩ := HW.out i hwi
          have hpi := HP.out i hlt
          have HFo : Hid ((Ps.take (i + 1)).foldl add64V 9223372036854775808 = add64V ((Ps.take i).foldl add64V 9223372036854775808) (Ps.getD i 0)) := take_succ_foldl _ _ _ _ (by rw [HL.out]; exact hlt)
          generalize S.getD i 0 = x at *
          generalize W.getD i 0 = y at *
          generalize Ps.getD i 0 = p at *
          have hpi : p = prodV y x := hpi
          subst hpi
          clear qr hI hI2
          go_wp2_with fail
          refine regionDR (gb := g2) (ob := o2) (ib := i) (Lw := W.length) (cw := cw) (gl := g) (ol := o) (Ll := S.length) (cl := cl) (Vf := w0.heap.size) (y := y) (s := x) rfl rfl ⟨rfl, rfl, rfl, rfl, HFB.out, hwi, hlt, hc2, hc, hx, y0, y1⟩ ?_
          intro w4 v41 v42 v43 v44 v45 v46 v47 v48 v49 v50 v51 v52 v53 v54 v55 hq4
          rw [normDR]
          have HQ4 : Hid (Q wr w4) := hq4
          have hplt := prodV_lt y x
          clear hc hc2 hq4
          by_cases hz : i = 0
          · have b0 : ((i : Int) == 0) = true := by rw [hz]; rfl
            have HC : Hid (prodV y x = if i + 1 = 0 then 0 else (Ps.take (i + 1)).foldl add64V 9223372036854775808) := by
              show prodV y x = if i + 1 = 0 then 0 else _
              rw [if_neg (by omega), HFo.out, hz]
              exact (first_prod y x).symm
            clear hz HFo
            generalize prodV y x = p at *
            go_wp2_with fail
            go_roundg (S.length - (i + 1))
            case measure => go_light; omega
            case rel =>
              go_light
              exact ⟨i + 1, p, rfl, HC.out, hplt, by simp, by omega, rfl, HQ.out.trans HQ4.out, HFB.out.next HQ4.out⟩
          · have b0 : ((i : Int) == 0) = false := by rw [beq_eq_false_iff_ne]; omega
            have HC : Hid (add64V A (prodV y x) = if i + 1 = 0 then 0 else (Ps.take (i + 1)).foldl add64V 9223372036854775808) := by
              show add64V A (prodV y x) = if i + 1 = 0 then 0 else _
              have hA' := HA.out
              rw [if_neg hz] at hA'
              rw [if_neg (by omega), HFo.out, ← hA']
            clear hz HFo HA
            generalize prodV y x = p at *
            go_wp2_with fail
            refine (radd64_any A p hA hplt _).mono ?_
            rintro e wz ⟨rfl, qz⟩
            have HQz : Hid (Q w4 wz) := qz
            clear qz
            go_wp2_with fail
            go_roundg (S.length - (i + 1))
            case measure => go_light; omega
            case rel =>
              go_light
              exact ⟨i + 1, add64V A p, rfl, HC.out, add64V_lt _ _, by simp, by omega, rfl, (HQ.out.trans HQ4.out).trans HQz.out, (HFB.out.next HQ4.out).next HQz.out⟩
        · obtain rfl : i = S.length := by omega
          have hge2 : ¬ (S.length : Int) < (S.length : Int) := by omega
          have HZ : Hid (A = dotF Ps) := by
            show A = dotF Ps
            have h := HA.out
            by_cases h0 : S.length = 0
            · rw [if_pos h0] at h
              rw [h, List.eq_nil_of_length_eq_zero (HL.out.trans h0)]; rfl
            · rw [if_neg h0, ← HL.out, List.take_of_length_le (Nat.le_refl _)] at h
              rw [h, dotF_pos (by rw [HL.out]; omega)]
          clear qr HA
          go_wp2_with fail
          go_ret2
          exact ⟨congrArg (fun z : Nat => Ending.returned (.tuple #[Value.int .u64 (z : Int), .int .i64 0])) HZ.out, HQ.out⟩
end Go.Proofs.YtjjjgdpgfndbdaaDoor
/- The document's sums of products with weights, as samples, and its errors. -/
namespace Go.Proofs.YtjjjgdpgfndbdaaDoor
open Go.RowKit
set_option linter.unusedVariables false
set_option linter.unusedSimpArgs false

/-- A 65536th of a number. -/
def scale16 : RNum → RNum
  | ⟨some (.inr (s, n, e, m))⟩ => .fin s n (e - 16) m
  | x => x
theorem quo_power64 (s : Bool) {m : Nat} (hm : m < 9007199254740992) (p q : Int) : ((Ieee.Datum.number s m p).quotient 54 (.number false 4503599627370496 q)).map Ieee.double.write = some (Ieee.double.word s (rungOf Ieee.double m (p - q - 52))) := by
  have hl2 : (4503599627370496 : Nat).log2 = 52 := by decide
  have hl : m.log2 ≤ 52 := by
    by_cases h0 : m = 0
    · subst h0; decide
    · have := (Nat.log2_lt h0).2 (show m < 2 ^ 53 from hm); omega
  obtain ⟨B, hB⟩ : ∃ B, B = 54 + (4503599627370496 : Nat).log2 - m.log2 := ⟨_, rfl⟩
  have hB1 : 54 ≤ B := by omega
  have em : (Ieee.Datum.number s m p).quotient 54 (.number false 4503599627370496 q) = some (.number (s ^^ false) (2 * ((m <<< B) / 4503599627370496) + ((m <<< B) % 4503599627370496 != 0).toNat) (p - q - (B : Int) - 1)) := by
    rw [hB]; simp [Ieee.Datum.quotient]
  have e1 : m <<< B = m * 2 ^ (B - 52) * 4503599627370496 := by
    rw [Nat.shiftLeft_eq, Nat.mul_assoc, show (4503599627370496 : Nat) = 2 ^ 52 from rfl, ← Nat.pow_add, show B - 52 + 52 = B by omega]
  rw [em, e1, Nat.mul_div_cancel _ (by decide), Nat.mul_mod_left, xor_f]
  show some (Ieee.double.nearest s (2 * (m * 2 ^ (B - 52)) + 0) (p - q - (B : Int) - 1)) = _
  rw [nearest_rung]
  refine congrArg (fun r => some (Ieee.double.word s r)) ?_
  have e2 : 2 * (m * 2 ^ (B - 52)) + 0 = m * 2 ^ (B - 51) := by
    rw [show B - 51 = (B - 52) + 1 by omega, Nat.pow_succ, Nat.add_zero, Nat.mul_comm 2, Nat.mul_assoc]
  rw [e2, rung_scale]
  congr 1; omega
theorem read_65536 : Ieee.double.read 4679240012837945344 = .number false 4503599627370496 (-36) := by decide +kernel
theorem over_link (D : Nat) : toldD (some (Ieee.double.read (roundD (scale16 (numOf Ieee.double D))))) = overW D := by
  have hq : floatBits .quo .f64 D 4679240012837945344 = ((Ieee.double.read D).quotient 54 (.number false 4503599627370496 (-36))).map Ieee.double.write := by
    rw [← read_65536]; rfl
  unfold overW
  rw [numOf_datum, hq]
  rcases Nat.lt_trichotomy (rung64 D) 9218868437227405312 with h | h | h
  · rw [read_fin64 h, quo_power64 _ (mag_lt64 _)]
    show toldD (some (Ieee.double.read (roundD (.fin (sgn64 D) (mag64 (rung64 D)) (-1074 + (plc64 (rung64 D) : Int) - 16) false)))) = toldD (some (Ieee.double.read (Ieee.double.word (sgn64 D) (rungOf Ieee.double (mag64 (rung64 D)) (-1074 + (plc64 (rung64 D) : Int) - -36 - 52)))))
    rw [roundD_fin', nearest_rung]
    congr 5
    omega
  · rw [read_inf64 h]
    show toldD (some (Ieee.double.read (Ieee.double.word (sgn64 D) 9218868437227405312))) = toldD (some (Ieee.double.read (Ieee.double.write (.infinity (sgn64 D ^^ false)))))
    rw [xor_f, write_inf]
  · rw [read_nan64 h]
    show toldD (some (Ieee.double.read 9221120237041090560)) = 2143289344
    decide +kernel
theorem fits16 (D : Nat) : fitsD (scale16 (numOf Ieee.double D)) := by
  have h := dblR_of D
  generalize numOf Ieee.double D = x at h
  cases x using RNum.rec3 with
  | nan => exact trivial
  | inf s => exact trivial
  | fin s n e m =>
    obtain ⟨h1, h2, h3, h4⟩ := h
    exact ⟨Nat.le_trans (blen_le (k := 53) h1) (by decide), by omega, by omega, fun h => by rw [h4] at h; cases h⟩
theorem lt16 (D : Nat) : roundD (scale16 (numOf Ieee.double D)) < 18446744073709551616 := by
  have h := dblR_of D
  generalize numOf Ieee.double D = x at h
  cases x using RNum.rec3 with
  | nan => show 9221120237041090560 < _; decide
  | inf s => show Ieee.double.word s 9218868437227405312 < _; rw [← write_inf]; exact write64_lt _
  | fin s n e m =>
    obtain ⟨h1, h2, h3, rfl⟩ := h
    show roundD (.fin s n (e - 16) false) < _
    rw [roundD_fin']
    exact write64_lt (.number s n (e - 16))
set_option maxHeartbeats 2000000 in
theorem rdot_of {vw vl : Value} {w : World} {D : Nat} (hD : D < 18446744073709551616) (H : Calls Tryd.prog 23 #[vw, vl] w fun e w' => e = .returned (.tuple #[.int .u64 (D : Nat), .int .i64 0]) ∧ Q w w') :
    Calls Tryd.prog 25 #[vw, vl] w fun e w' => e = .returned (.tuple #[.int .u32 (overW D : Nat), .int .i64 0]) ∧ Q w w' := by
  have HD : Hid _ := H
  have HL : Hid _ := over_link D
  have HF : Hid _ := fits16 D
  have HB : Hid _ := dblR_of D
  have HR : Hid _ := lt16 D
  clear H
  go_enter Tryd.func25, Tryd.ntmps25
  go_wp2_with fail
  refine Calls.mono HD.out ?_
  rintro e w1 ⟨rfl, q1⟩
  have HQ1 : Hid (Q w w1) := q1
  clear q1
  go_wp2_with fail
  refine (f64_any _).mono ?_
  rintro e w2 ⟨rfl, q2⟩
  have HQ2 : Hid (Q w1 w2) := q2
  clear q2
  go_wp2_with fail
  refine (of64_any D _ hD).mono ?_
  rintro e w3 ⟨v, rfl, hv, q3⟩
  have fb : FBox w3 w2.heap.size := FBox.next (w := w2.alloc (.cells #[.int .i64 52, .int .i64 11] 75)) ⟨by simp [go_sem], by simp [go_sem]⟩ q3
  have hlt : w2.heap.size < w3.heap.size := by
    have := q3.1.size
    simp [go_sem] at this
    omega
  have HQ3 : Hid (Q w w3) := ((HQ1.out.trans HQ2.out).cells _ _).trans q3
  clear q3
  obtain ⟨c0, c1⟩ := fb
  have hne : w2.heap.size ≠ w3.heap.size := by omega
  generalize w2.heap.size = V at *
  obtain ⟨X, hX⟩ : ∃ X, X = numOf Ieee.double D := ⟨_, rfl⟩
  rw [← hX] at hv HL HF HB HR
  clear hX
  cases X using RNum.rec3 with
  | nan =>
    obtain ⟨b, e, m, rfl⟩ := hv
    have HR : Hid (roundD .nan < 18446744073709551616) := HR.out
    go_wp2_with fail
    refine (round64_any _ (.nan) _ ⟨b, wrap64 (e - 16), m, rfl⟩ HF.out).mono ?_
    rintro e4 w4 ⟨rfl, q4⟩
    have HQ4 : Hid (Q w w4) := (HQ3.out.cells _ _).trans q4
    clear q4
    go_wp2_with fail
    refine (rnarrow_any _ HR.out _).mono ?_
    rintro e5 w5 ⟨rfl, q5⟩
    have HL' : Hid (toldD (some (Ieee.double.read (roundD (.nan)))) = overW D) := HL.out
    rw [HL'.out]
    have HQ5 : Hid (Q w w5) := HQ4.out.trans q5
    clear q5
    go_wp2_with fail
    go_ret2
    exact ⟨rfl, HQ5.out⟩
  | inf s =>
    obtain ⟨e, m, rfl⟩ := hv
    have HR : Hid (roundD (.inf s) < 18446744073709551616) := HR.out
    go_wp2_with fail
    refine (round64_any _ (.inf s) _ ⟨wrap64 (e - 16), m, rfl⟩ HF.out).mono ?_
    rintro e4 w4 ⟨rfl, q4⟩
    have HQ4 : Hid (Q w w4) := (HQ3.out.cells _ _).trans q4
    clear q4
    go_wp2_with fail
    refine (rnarrow_any _ HR.out _).mono ?_
    rintro e5 w5 ⟨rfl, q5⟩
    have HL' : Hid (toldD (some (Ieee.double.read (roundD (.inf s)))) = overW D) := HL.out
    rw [HL'.out]
    have HQ5 : Hid (Q w w5) := HQ4.out.trans q5
    clear q5
    go_wp2_with fail
    go_ret2
    exact ⟨rfl, HQ5.out⟩
  | fin s n e m =>
    obtain ⟨nv, rfl, hN⟩ := hv
    obtain ⟨_, h2, h3, rfl⟩ := HB.out
    have HR : Hid (roundD (.fin s n (e - 16) false) < 18446744073709551616) := HR.out
    clear HB
    have hw1 : -9223372036854775808 ≤ e - 16 := by omega
    have hw2 : e - 16 < 9223372036854775808 := by omega
    have HN : Hid (NatAt w3 nv n) := hN
    obtain ⟨p, b, L, C, rfl, _⟩ := hN
    clear h2 h3
    go_wp2_with fail
    refine (round64_any _ (.fin s n (e - 16) false) _ ⟨_, rfl, Q.nat ((Q.refl w3).cells _ _) HN.out⟩ HF.out).mono ?_
    rintro e4 w4 ⟨rfl, q4⟩
    have HQ4 : Hid (Q w w4) := (HQ3.out.cells _ _).trans q4
    clear q4
    go_wp2_with fail
    refine (rnarrow_any _ HR.out _).mono ?_
    rintro e5 w5 ⟨rfl, q5⟩
    have HL' : Hid (toldD (some (Ieee.double.read (roundD (.fin s n (e - 16) false)))) = overW D) := HL.out
    rw [HL'.out]
    have HQ5 : Hid (Q w w5) := HQ4.out.trans q5
    clear q5
    go_wp2_with fail
    go_ret2
    exact ⟨rfl, HQ5.out⟩
set_option maxHeartbeats 1000000 in
theorem dot_len (vw vl : Value) (W : List Int) (S : List Nat) (w : World) (hw : ISl w vw W) (hl : USl w vl S) (hn : S.length ≤ 35184372087808) (hn' : W.length ≤ 35184372087808) (he : W.length ≠ S.length) :
    Calls Tryd.prog 48 #[vw, vl] w fun e w' => e = .returned (.tuple #[.float .f64 0, .int .i64 30]) ∧ w' = w := by
  obtain ⟨aw, cw, rfl⟩ := hw.form
  obtain ⟨al, cl, rfl⟩ := hl.form
  have ne0 : ((W.length : Int) != (S.length : Int)) = true := by simp; omega
  clear hl hw he
  go_enter Tryd.func48, Tryd.ntmps48
  go_wp2_with fail
  go_ret2
  exact ⟨rfl, rfl⟩
set_option maxHeartbeats 1000000 in
theorem rdot64_len (vw vl : Value) (W : List Int) (S : List Nat) (w : World) (hw : ISl w vw W) (hl : USl w vl S) (hn : S.length ≤ 35184372087808) (hn' : W.length ≤ 35184372087808) (he : W.length ≠ S.length) :
    Calls Tryd.prog 23 #[vw, vl] w fun e w' => e = .returned (.tuple #[.int .u64 0, .int .i64 30]) ∧ w' = w := by
  obtain ⟨aw, cw, rfl⟩ := hw.form
  obtain ⟨al, cl, rfl⟩ := hl.form
  have ne0 : ((W.length : Int) != (S.length : Int)) = true := by simp; omega
  clear hl hw he
  go_enter Tryd.func23, Tryd.ntmps23
  go_wp2_with fail
  go_ret2
  exact ⟨rfl, rfl⟩
set_option maxHeartbeats 2000000 in
theorem rdot64_bad (vw vl : Value) (W : List Int) (S : List Nat) (w : World) (hw : ISl w vw W) (hl : USl w vl S) (hn : S.length ≤ 35184372087808) (he : W.length = S.length) (hW : ¬ ∀ i, i < W.length → W.getD i 0 ≤ 268435456 ∧ -268435456 ≤ W.getD i 0) :
    Calls Tryd.prog 23 #[vw, vl] w fun e w' => e = .returned (.tuple #[.int .u64 0, .int .i64 32]) ∧ w' = w := by
  obtain ⟨aw, cw, rfl⟩ := hw.form
  obtain ⟨al, cl, rfl⟩ := hl.form
  have hn' : W.length ≤ 35184372087808 := by rw [he]; exact hn
  have ne0 : ((W.length : Int) != (S.length : Int)) = false := by rw [he]; simp
  have HI : Hid (ISl w (.slice aw W.length cw) W) := hw
  have HW : Hid _ := hW
  clear hl hw hW he
  go_enter Tryd.func23, Tryd.ntmps23
  go_wp2_with fail
  go_loopg [6] (W.length) (fun gh s6 wr => ∃ i : Nat, s6 = .int .i64 (i : Int) ∧ i ≤ W.length ∧ gh = W.length - i ∧ Hid (∀ j, j < i → W.getD j 0 ≤ 268435456 ∧ -268435456 ≤ W.getD j 0) ∧ wr = w)
  case atStart => exact ⟨0, rfl, by omega, rfl, fun j hj => absurd hj (Nat.not_lt_zero _), rfl⟩
  case round =>
    obtain ⟨i, rfl, hi, rfl, HG, rfl⟩ := hrel
    by_cases hlt : i < W.length
    · obtain ⟨g, o, cap', hsl, hI⟩ := HI.out.some (by omega)
      injection hsl with hs1 hs2 hs3
      subst hs1 hs3
      clear hs2
      have hc := hI i hlt
      obtain ⟨x, hx⟩ : ∃ x, W.getD i 0 = x := ⟨_, rfl⟩
      rw [hx] at hc
      have HX : Hid (W.getD i 0 = x) := hx
      clear hI hx
      by_cases h1 : 268435456 < x
      · go_wp2_with fail
        go_ret2
        exact ⟨rfl, rfl⟩
      · by_cases h2 : x < -268435456
        · go_wp2_with fail
          go_ret2
          exact ⟨rfl, rfl⟩
        · go_wp2_with fail
          go_roundg (W.length - (i + 1))
          case measure => go_light; omega
          case rel =>
            go_light
            refine ⟨i + 1, by simp, by omega, rfl, fun j hj => ?_, rfl⟩
            rcases Nat.lt_or_ge j i with g' | g'
            · exact HG.out j g'
            · obtain rfl : j = i := by omega
              rw [HX.out]
              omega
    · exfalso
      exact HW.out (fun j hj => HG.out j (by omega))
set_option maxHeartbeats 1000000 in
theorem rdot_err {vw vl : Value} {w : World} {E : Int} (hE : (E != 0) = true) (H : Calls Tryd.prog 23 #[vw, vl] w fun e w' => e = .returned (.tuple #[.int .u64 0, .int .i64 E]) ∧ w' = w) :
    Calls Tryd.prog 25 #[vw, vl] w fun e w' => e = .returned (.tuple #[.int .u32 0, .int .i64 E]) ∧ w' = w := by
  have HD : Hid _ := H
  clear H
  go_enter Tryd.func25, Tryd.ntmps25
  go_wp2_with fail
  refine Calls.mono HD.out ?_
  rintro e w1 ⟨rfl, rfl⟩
  go_wp2_with fail
  go_ret2
  exact ⟨rfl, rfl⟩
/-- The weights that may be. -/
def Few (W : List Int) : Prop := ∀ i, i < W.length → W.getD i 0 ≤ 268435456 ∧ -268435456 ≤ W.getD i 0
def fewB (W : List Int) : Bool := (List.range W.length).all fun i => decide (W.getD i 0 ≤ 268435456) && decide (-268435456 ≤ W.getD i 0)
theorem fewB_iff (W : List Int) : fewB W = true ↔ Few W := by
  unfold fewB Few
  simp only [List.all_eq_true, List.mem_range, Bool.and_eq_true, decide_eq_true_eq]
/-- The error of a sum of products. -/
def dotE (W : List Int) (S : List Nat) : Int := if W.length ≠ S.length then 30 else if fewB W = true then 0 else 32
def dotA (W : List Int) (S : List Nat) : Nat := if dotE W S = 0 then dotF (prods W S) else 0
def dotB (W : List Int) (S : List Nat) : Nat := if dotE W S = 0 then overW (dotF (prods W S)) else 0
theorem dotF_lt {l : List Nat} : dotF l < 18446744073709551616 := by
  unfold dotF
  split
  · decide
  · rename_i h
    rcases List.eq_nil_or_concat l with e | ⟨m, x, e⟩
    · exact absurd e h
    · rw [e, List.concat_eq_append, List.foldl_append]
      exact add64V_lt _ _
theorem dotE_cases (W : List Int) (S : List Nat) : (W.length ≠ S.length ∧ dotE W S = 30) ∨ (W.length = S.length ∧ Few W ∧ dotE W S = 0) ∨ (W.length = S.length ∧ ¬ Few W ∧ dotE W S = 32) := by
  unfold dotE
  by_cases h : W.length = S.length
  · by_cases k : Few W
    · exact Or.inr (Or.inl ⟨h, k, by rw [if_neg (fun e => e h), if_pos ((fewB_iff W).2 k)]⟩)
    · exact Or.inr (Or.inr ⟨h, k, by rw [if_neg (fun e => e h), if_neg (fun e => k ((fewB_iff W).1 e))]⟩)
  · exact Or.inl ⟨h, by rw [if_pos h]⟩
section
variable (vw vl : Value) (W : List Int) (S : List Nat) (w : World)
theorem dot64_all (hw : ISl w vw W) (hl : USl w vl S) (hn : S.length ≤ 35184372087808) (hn' : W.length ≤ 35184372087808) (hb : ∀ i, S.getD i 0 < 4294967296) : Calls Tryd.prog 22 #[vw, vl] w fun e w' => e = .returned (.tuple #[.int .u64 (dotA W S : Nat), .int .i64 (dotE W S)]) ∧ Q w w' := by
  unfold dotA
  rcases dotE_cases W S with ⟨h, e⟩ | ⟨h, k, e⟩ | ⟨h, k, e⟩ <;> rw [e]
  · refine (dot64_err (E := 30) (by decide) (dot_len vw vl W S w hw hl hn hn' h)).mono ?_
    rintro _ _ ⟨rfl, rfl⟩
    exact ⟨rfl, Q.refl _⟩
  · exact dot64_of (dot_gen vw vl W S w hw hl hn h hb k)
  · refine (dot64_err (E := 32) (by decide) (dot_bad vw vl W S w hw hl hn h k)).mono ?_
    rintro _ _ ⟨rfl, rfl⟩
    exact ⟨rfl, Q.refl _⟩
theorem dot_all (hw : ISl w vw W) (hl : USl w vl S) (hn : S.length ≤ 35184372087808) (hn' : W.length ≤ 35184372087808) (hb : ∀ i, S.getD i 0 < 4294967296) : Calls Tryd.prog 24 #[vw, vl] w fun e w' => e = .returned (.tuple #[.int .u32 (dotB W S : Nat), .int .i64 (dotE W S)]) ∧ Q w w' := by
  unfold dotB
  rcases dotE_cases W S with ⟨h, e⟩ | ⟨h, k, e⟩ | ⟨h, k, e⟩ <;> rw [e]
  · refine (dot_err (E := 30) (by decide) (dot_len vw vl W S w hw hl hn hn' h)).mono ?_
    rintro _ _ ⟨rfl, rfl⟩
    exact ⟨rfl, Q.refl _⟩
  · exact dot_of (dot_gen vw vl W S w hw hl hn h hb k)
  · refine (dot_err (E := 32) (by decide) (dot_bad vw vl W S w hw hl hn h k)).mono ?_
    rintro _ _ ⟨rfl, rfl⟩
    exact ⟨rfl, Q.refl _⟩
theorem rdot64_all (hw : ISl w vw W) (hl : USl w vl S) (hn : S.length ≤ 35184372087808) (hn' : W.length ≤ 35184372087808) (hb : ∀ i, S.getD i 0 < 4294967296) : Calls Tryd.prog 23 #[vw, vl] w fun e w' => e = .returned (.tuple #[.int .u64 (dotA W S : Nat), .int .i64 (dotE W S)]) ∧ Q w w' := by
  unfold dotA
  rcases dotE_cases W S with ⟨h, e⟩ | ⟨h, k, e⟩ | ⟨h, k, e⟩ <;> rw [e]
  · refine (rdot64_len vw vl W S w hw hl hn hn' h).mono ?_
    rintro _ _ ⟨rfl, rfl⟩
    exact ⟨rfl, Q.refl _⟩
  · exact rdot64_any vw vl W S w hw hl hn h hb k
  · refine (rdot64_bad vw vl W S w hw hl hn h k).mono ?_
    rintro _ _ ⟨rfl, rfl⟩
    exact ⟨rfl, Q.refl _⟩
theorem rdot_all (hw : ISl w vw W) (hl : USl w vl S) (hn : S.length ≤ 35184372087808) (hn' : W.length ≤ 35184372087808) (hb : ∀ i, S.getD i 0 < 4294967296) : Calls Tryd.prog 25 #[vw, vl] w fun e w' => e = .returned (.tuple #[.int .u32 (dotB W S : Nat), .int .i64 (dotE W S)]) ∧ Q w w' := by
  unfold dotB
  rcases dotE_cases W S with ⟨h, e⟩ | ⟨h, k, e⟩ | ⟨h, k, e⟩ <;> rw [e]
  · refine (rdot_err (E := 30) (by decide) (rdot64_len vw vl W S w hw hl hn hn' h)).mono ?_
    rintro _ _ ⟨rfl, rfl⟩
    exact ⟨rfl, Q.refl _⟩
  · exact rdot_of dotF_lt (rdot64_any vw vl W S w hw hl hn h hb k)
  · refine (rdot_err (E := 32) (by decide) (rdot64_bad vw vl W S w hw hl hn h k)).mono ?_
    rintro _ _ ⟨rfl, rfl⟩
    exact ⟨rfl, Q.refl _⟩
end
end Go.Proofs.YtjjjgdpgfndbdaaDoor
