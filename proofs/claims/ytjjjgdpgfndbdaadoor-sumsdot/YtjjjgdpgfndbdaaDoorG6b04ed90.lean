/- Sums of products with weights, where each product is a number. -/
import Derived.Test.YtjjjgdpgfndbdaaDoorG796e0ed9
import Derived.Test.YtjjjgdpgfndbdaaDoorGc34aa58b
namespace Go.Proofs.YtjjjgdpgfndbdaaDoor
open Go.RowKit
set_option linter.unusedVariables false
set_option linter.unusedSimpArgs false

/-- A list of whole numbers in memory. -/
def ISl (w : World) (v : Value) (l : List Int) : Prop := (∃ g o cap, v = .slice (some ⟨g, o, none⟩) l.length cap ∧ ∀ i, i < l.length → w.cell? ⟨g, o + i, none⟩ = some (.int .i64 (l.getD i 0))) ∨ (∃ a c, v = .slice a 0 c ∧ l = [])
theorem ISl.next {w w' : World} {v : Value} {l : List Int} (h : ISl w v l) (q : Q w w') : ISl w' v l := by
  rcases h with ⟨g, o, cap, h1, h2⟩ | h
  · exact Or.inl ⟨g, o, cap, h1, fun i hi => q.cell (h2 i hi)⟩
  · exact Or.inr h
theorem ISl.form {w : World} {v : Value} {l : List Int} (h : ISl w v l) : ∃ a cap, v = .slice a l.length cap := by
  rcases h with ⟨g, o, cap, h1, h2⟩ | ⟨a, c, h1, h2⟩
  · exact ⟨_, _, h1⟩
  · subst h2; exact ⟨a, c, h1⟩
theorem ISl.some {w : World} {v : Value} {l : List Int} (h : ISl w v l) (h1 : 1 ≤ l.length) : ∃ g o cap, v = .slice (some ⟨g, o, none⟩) l.length cap ∧ ∀ i, i < l.length → w.cell? ⟨g, o + i, none⟩ = some (.int .i64 (l.getD i 0)) := by
  rcases h with h | ⟨_, _, _, h2⟩
  · exact h
  · subst h2; cases h1
/-- The sum of products. -/
def dotF (l : List Nat) : Nat := if l = [] then 0 else l.foldl add64V 9223372036854775808
set_option maxHeartbeats 4000000 in
set_option maxRecDepth 100000 in
theorem dot_fin (vw vl : Value) (W : List Int) (S Ps : List Nat) (w : World) (hw : ISl w vw W) (hl : USl w vl S) (hn : S.length ≤ 35184372087808) (he : W.length = S.length) (hb : ∀ i, S.getD i 0 < 4294967296)
    (hW : ∀ i, i < W.length → W.getD i 0 ≤ 268435456 ∧ -268435456 ≤ W.getD i 0) (hP : Ps.length = S.length) (hp : ∀ i, i < S.length → floatBits .mul .f64 (floatOfInt .f64 (W.getD i 0)) (wideW (S.getD i 0)) = some (Ps.getD i 0)) :
    Calls Tryd.prog 48 #[vw, vl] w fun e w' => ∃ X : Nat, e = .returned (.tuple #[.float .f64 X, .int .i64 0]) ∧ X < 18446744073709551616 ∧ canW X = dotF Ps ∧ Q w w' := by
  obtain ⟨aw, cw, rfl⟩ := hw.form
  obtain ⟨al, cl, rfl⟩ := hl.form
  have hn' : W.length ≤ 35184372087808 := by rw [he]; exact hn
  have ne0 : ((W.length : Int) != (S.length : Int)) = false := by rw [he]; simp
  have HS : Hid (USl w (.slice al S.length cl) S) := hl
  have HI : Hid (ISl w (.slice aw W.length cw) W) := hw
  have HB : Hid (∀ i, S.getD i 0 < 4294967296) := hb
  have HW : Hid _ := hW
  have HP : Hid _ := hp
  have HE : Hid (W.length = S.length) := he
  have HL : Hid (Ps.length = S.length) := hP
  clear hl hw hb hW hp he hP
  go_enter Tryd.func48, Tryd.ntmps48
  go_wp2_with fail
  go_loopg [19] (W.length) (fun gh s19 wr => ∃ i : Nat, s19 = .int .i64 (i : Int) ∧ i ≤ W.length ∧ gh = W.length - i ∧ wr = w)
  case atStart => exact ⟨0, rfl, by omega, rfl, rfl⟩
  case round =>
    obtain ⟨i, rfl, hi, rfl, rfl⟩ := hrel
    by_cases hlt : i < W.length
    · obtain ⟨g, o, cap', hsl, hI⟩ := HI.out.some (by omega)
      injection hsl with hs1 hs2 hs3
      subst hs1 hs3
      clear hs2
      have hc := hI i hlt
      obtain ⟨h1, h2⟩ := HW.out i hlt
      have h1' : ¬ 268435456 < W.getD i 0 := by omega
      have h2' : ¬ W.getD i 0 < -268435456 := by omega
      generalize W.getD i 0 = x at *
      clear hI h1 h2
      go_wp2_with fail
      go_roundg (W.length - (i + 1))
      case measure => go_light; omega
      case rel => go_light; exact ⟨i + 1, by simp, by omega, rfl, rfl⟩
    · obtain rfl : i = W.length := by omega
      have hge : ¬ (W.length : Int) < (W.length : Int) := by omega
      by_cases h0 : S.length = 0
      · have b0 : ((S.length : Int) == 0) = true := by rw [h0]; rfl
        have HF : Hid (dotF Ps = 0) := by
          show dotF Ps = 0
          rw [List.eq_nil_of_length_eq_zero (HL.out.trans h0)]; rfl
        clear h0
        go_wp2_with fail
        go_ret2
        exact ⟨0, rfl, by decide, by rw [HF.out]; decide +kernel, Q.refl _⟩
      · have b0 : ((S.length : Int) == 0) = false := by rw [beq_eq_false_iff_ne]; omega
        have HF : Hid (dotF Ps = Ps.foldl add64V 9223372036854775808) := by
          show dotF Ps = _
          unfold dotF
          rw [if_neg (fun e => h0 (by rw [← HL.out, e]; rfl))]
        clear h0
        go_wp2_with fail
        refine (copysign_any _).mono ?_
        rintro e w0 ⟨rfl, rfl⟩
        go_wp2_with fail
        go_loopg [8, 36] (S.length) (fun gh s8 s36 wr => ∃ i X : Nat, s8 = .float .f64 X ∧ Hid (canW X = (Ps.take i).foldl add64V 9223372036854775808) ∧ X < 18446744073709551616 ∧ s36 = .int .i64 (i : Int) ∧ i ≤ S.length ∧ gh = S.length - i ∧ Q w0 wr)
        case atStart => exact ⟨0, 9223372036854775808, rfl, (show canW 9223372036854775808 = 9223372036854775808 by decide +kernel), by decide, rfl, by omega, rfl, Q.refl _⟩
        case round =>
          obtain ⟨i, X, rfl, HX, hX, rfl, hi2, rfl, qr⟩ := hrel
          by_cases hlt : i < S.length
          · obtain ⟨g, o, cap', hsl, hcap, hI⟩ := HS.out.some (by omega)
            injection hsl with hs1 hs2 hs3
            subst hs1 hs3
            clear hs2
            have hwi : i < W.length := by rw [HE.out]; exact hlt
            have hwi' : (i : Int) < (W.length : Int) := by omega
            obtain ⟨g2, o2, cap2, hsl2, hI2⟩ := HI.out.some (by omega)
            injection hsl2 with hs1 hs2 hs3
            subst hs1 hs3
            clear hs2
            have hc := qr.cell (hI i hlt)
            have hc2 := qr.cell (hI2 i hwi)
            have hx := HB.out i
            have hpi := HP.out i hlt
            have HFo : Hid ((Ps.take (i + 1)).foldl add64V 9223372036854775808 = add64V ((Ps.take i).foldl add64V 9223372036854775808) (Ps.getD i 0)) := take_succ_foldl _ _ _ _ (by rw [HL.out]; exact hlt)
            have HQ : Hid (Q w0 wr) := qr
            generalize S.getD i 0 = x at *
            generalize W.getD i 0 = y at *
            generalize Ps.getD i 0 = p at *
            have HC : Hid (∀ X', canW X' = add64V X p → canW X' = (Ps.take (i + 1)).foldl add64V 9223372036854775808) := fun X' h => by rw [HFo.out, ← HX.out, can_sum]; exact h
            have l1 := fun w => run_float_arith (P := Tryd.prog) w .mul 60 .f64 _ _ _ hpi
            have SW : Hid (∀ n : QW wr, Calls Tryd.prog 40 #[.int .u32 (x : Int)] n.x fun e w' => e = .returned (.float .f64 (wideW x)) ∧ Q n.x w') := fun n => swide_any x hx n.x
            clear qr HFo HX hI hI2 hpi
            have dc2 := qw_cell hc2
            have n0 := qw_some wr
            go_wp2_with fail
            refine wp_region_quiet_Q (by kernel_rfl) (by kernel_rfl) ?_
            repeat (first | go_big_quiet_step (first | (go_at_call 40; exact calls_qw (SW.out _))) | quiet_step (first | (go_at_call 40; exact calls_qw (SW.out _))))
            refine wpQuiet_nil ?_
            intro w4 hw'
            have hq4 := qw_out hw'
            clear hw' n0 dc2 SW hc hc2
            cases hd : (Ieee.double.read X).sum (Ieee.double.read p) with
            | none =>
              have hf : floatBits .add .f64 X p = none := by
                show ((Ieee.double.read X).sum (Ieee.double.read p)).map Ieee.double.write = none
                rw [hd]; rfl
              have l2 := fun w => run_arith_none .add (by simp) 60 .f64 X p hf Tryd.prog w
              have HE2 : Hid (add64V X p = 9221120237041090560) := by show add64V X p = _; unfold add64V; rw [hd]; rfl
              clear hd hf l1
              go_wp2_with fail
              go_roundg (S.length - (i + 1))
              case measure => go_light; omega
              case rel =>
                go_light
                exact ⟨i + 1, _, rfl, HC.out _ (by rw [HE2.out]; exact can_none _ _ _), (nanw64 _ _ _).2, by simp, by omega, rfl, (HQ.out.trans hq4).drew⟩
            | some d =>
              have hf : floatBits .add .f64 X p = some (Ieee.double.write d) := by
                show ((Ieee.double.read X).sum (Ieee.double.read p)).map Ieee.double.write = _
                rw [hd]; rfl
              have l2 := fun w => run_float_arith (P := Tryd.prog) w .add 60 .f64 X p _ hf
              have HE2 : Hid (add64V X p = told64 (some d)) := by show add64V X p = _; unfold add64V; rw [hd]
              have HD : Hid (d.isNaN = false) := sum_num hd
              clear hd hf l1
              go_wp2_with fail
              go_roundg (S.length - (i + 1))
              case measure => go_light; omega
              case rel =>
                go_light
                exact ⟨i + 1, _, rfl, HC.out _ (by rw [HE2.out]; exact can_some HD.out), write64_lt _, by simp, by omega, rfl, HQ.out.trans hq4⟩
          · obtain rfl : i = S.length := by omega
            have hge2 : ¬ (S.length : Int) < (S.length : Int) := by omega
            have HQ : Hid (Q w0 wr) := qr
            have HZ : Hid (canW X = dotF Ps) := by
              show canW X = dotF Ps
              rw [HF.out, HX.out, ← HL.out, List.take_of_length_le (Nat.le_refl _)]
            clear qr HX
            go_wp2_with fail
            go_ret2
            exact ⟨X, rfl, hX, HZ.out, HQ.out⟩
set_option maxHeartbeats 1000000 in
theorem dot_short (vw vl : Value) (W : List Int) (S : List Nat) (w : World) (hw : ISl w vw W) (hl : USl w vl S) (he : W.length ≠ S.length) :
    Calls Tryd.prog 48 #[vw, vl] w fun e w' => e = .returned (.tuple #[.float .f64 0, .int .i64 30]) ∧ w' = w := by
  obtain ⟨aw, cw, rfl⟩ := hw.form
  obtain ⟨al, cl, rfl⟩ := hl.form
  have ne0 : ((W.length : Int) != (S.length : Int)) = true := by rw [bne_iff_ne]; omega
  clear hw hl he
  go_enter Tryd.func48, Tryd.ntmps48
  go_wp2_with fail
  go_ret2
  exact ⟨rfl, rfl⟩
set_option maxHeartbeats 1000000 in
theorem dot64_short (vw vl : Value) (W : List Int) (S : List Nat) (w : World) (hw : ISl w vw W) (hl : USl w vl S) (he : W.length ≠ S.length) :
    Calls Tryd.prog 22 #[vw, vl] w fun e w' => e = .returned (.tuple #[.int .u64 0, .int .i64 30]) ∧ w' = w := by
  have HD : Hid _ := dot_short vw vl W S w hw hl he
  clear hw hl he
  go_enter Tryd.func22, Tryd.ntmps22
  go_wp2_with fail
  refine Calls.mono HD.out ?_
  rintro e w1 ⟨rfl, rfl⟩
  go_wp2_with fail
  go_ret2
  exact ⟨rfl, rfl⟩
set_option maxHeartbeats 1000000 in
theorem dot64_of {vw vl : Value} {w : World} {D : Nat} (H : Calls Tryd.prog 48 #[vw, vl] w fun e w' => ∃ X : Nat, e = .returned (.tuple #[.float .f64 X, .int .i64 0]) ∧ X < 18446744073709551616 ∧ canW X = D ∧ Q w w') :
    Calls Tryd.prog 22 #[vw, vl] w fun e w' => e = .returned (.tuple #[.int .u64 (D : Nat), .int .i64 0]) ∧ Q w w' := by
  have HD : Hid _ := H
  clear H
  go_enter Tryd.func22, Tryd.ntmps22
  go_wp2_with fail
  refine Calls.mono HD.out ?_
  rintro e w1 ⟨X, rfl, hX, hc, q1⟩
  have HC : Hid (canW X = D) := hc
  clear hc
  go_wp2_with fail
  refine (widebits_any X hX _).mono ?_
  rintro e w2 ⟨rfl, rfl⟩
  rw [HC.out]
  go_wp2_with fail
  go_ret2
  exact ⟨rfl, q1⟩
/-- A 65536th of a binary64, as a sample. -/
def overW (X : Nat) : Nat := match floatBits .quo .f64 X 4679240012837945344 with
  | none => 2143289344
  | some Z => toldD (some (Ieee.double.read Z))
theorem quo_nan {X : Nat} (h : nan64 X = true) : floatBits .quo .f64 X 4679240012837945344 = none := by
  obtain ⟨s, t, e⟩ := isNaN_cases (read64_nan h)
  show ((Ieee.double.read X).quotient (Ieee.double.fractionBits + 2) (Ieee.double.read 4679240012837945344)).map Ieee.double.write = none
  rw [e]
  rfl
theorem told_nan {X : Nat} (h : nan64 X = true) : toldD (some (Ieee.double.read X)) = 2143289344 := by
  obtain ⟨s, t, e⟩ := isNaN_cases (read64_nan h)
  rw [e]
  rfl
theorem over_can (X : Nat) : overW (canW X) = overW X := by
  unfold canW
  cases h : nan64 X
  · rfl
  · rw [if_pos rfl]
    unfold overW
    rw [quo_nan h, quo_nan made64]
set_option maxHeartbeats 1000000 in
theorem dot_of {vw vl : Value} {w : World} {D : Nat} (H : Calls Tryd.prog 48 #[vw, vl] w fun e w' => ∃ X : Nat, e = .returned (.tuple #[.float .f64 X, .int .i64 0]) ∧ X < 18446744073709551616 ∧ canW X = D ∧ Q w w') :
    Calls Tryd.prog 24 #[vw, vl] w fun e w' => e = .returned (.tuple #[.int .u32 (overW D : Nat), .int .i64 0]) ∧ Q w w' := by
  have HD : Hid _ := H
  clear H
  go_enter Tryd.func24, Tryd.ntmps24
  go_wp2_with fail
  refine Calls.mono HD.out ?_
  rintro e w1 ⟨X, rfl, hX, hc, q1⟩
  have HO : Hid (overW D = overW X) := by
    show overW D = overW X
    rw [← hc, over_can]
  clear hc
  cases hf : floatBits .quo .f64 X 4679240012837945344 with
  | none =>
    have l2 := fun w => run_arith_none .quo (by simp) 60 .f64 X 4679240012837945344 hf Tryd.prog w
    have HT : Hid (overW X = 2143289344) := by
      show overW X = _
      unfold overW; rw [hf]
    clear hf
    go_wp2_with fail
    refine (snarrow_any _ _).mono ?_
    rintro e w2 ⟨rfl, q2⟩
    rw [told_nan (nanw64 _ _ _).1]
    go_wp2_with fail
    go_ret2
    exact ⟨by rw [HO.out, HT.out]; rfl, (q1.drew).trans q2⟩
  | some Z =>
    have l2 := fun w => run_float_arith (P := Tryd.prog) w .quo 60 .f64 X 4679240012837945344 _ hf
    have HT : Hid (overW X = toldD (some (Ieee.double.read Z))) := by
      show overW X = _
      unfold overW; rw [hf]
    clear hf
    go_wp2_with fail
    refine (snarrow_any _ _).mono ?_
    rintro e w2 ⟨rfl, q2⟩
    rw [← HT.out, ← HO.out]
    go_wp2_with fail
    go_ret2
    exact ⟨rfl, q1.trans q2⟩
end Go.Proofs.YtjjjgdpgfndbdaaDoor
