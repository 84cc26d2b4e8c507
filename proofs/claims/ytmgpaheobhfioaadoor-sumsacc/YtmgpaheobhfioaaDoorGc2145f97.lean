/- Another order of a list, told by a number: the same samples. -/
import Derived.Test.YtmgpaheobhfioaaDoorG4d9e1679
import Derived.Test.YtmgpaheobhfioaaDoorG04bdf37f
import Derived.Test.YtmgpaheobhfioaaDoorGbee05406
import Derived.Test.YtmgpaheobhfioaaDoorGb5d5ad33
import Derived.Laws.BitsAll
import Derived.Test.YtmgpaheobhfioaaDoorGe9f3539d
import Derived.Test.YtmgpaheobhfioaaDoorG6dc8acda
import Derived.Test.YtmgpaheobhfioaaDoorG0896ea7b
import Derived.Test.YtmgpaheobhfioaaDoorGfa574f83
namespace Go.Proofs.YtmgpaheobhfioaaDoor
open Go.RowKit
set_option linter.unusedVariables false
set_option linter.unusedSimpArgs false

theorem run_app_zeroU {P : Program} (w : World) (t ty e : TypeId) (i : TypeInfo) (ht : P.underlying t = some (.slice e)) (hi : P.info? e = some i) (a : Option Addr) (c : Nat) : (Builtin.append_ #[t, t] ty #[.slice none 0 0, .slice a 0 c]).run P w = .ok (.slice none 0 0) w := by
  cases a <;> simp [Builtin.append_, run_underlying ht, sizeOf, typeInfo, hi, Builtin.lenOf, Builtin.firstCells, loadCells, loadCellsFrom]
end Go.Proofs.YtmgpaheobhfioaaDoor
/- Lists of whole numbers in memory. -/
namespace Go.Proofs.YtmgpaheobhfioaaDoor
open Go.RowKit
set_option linter.unusedVariables false
set_option linter.unusedSimpArgs false

/-- A list of whole numbers in memory. -/
def ISl (w : World) (v : Value) (l : List Int) : Prop := (∃ g o cap, v = .slice (some ⟨g, o, none⟩) l.length cap ∧ ∀ i, i < l.length → w.cell? ⟨g, o + i, none⟩ = some (.int .i64 (l.getD i 0))) ∨ (∃ a c, v = .slice a 0 c ∧ l = [])
theorem ISl.next {w w' : World} {v : Value} {l : List Int} (h : ISl w v l) (q : Q w w') : ISl w' v l := by
  rcases h with ⟨g, o, cap, h1, h2⟩ | h
  · exact Or.inl ⟨g, o, cap, h1, fun i hi => q.cell (h2 i hi)⟩
  · exact Or.inr h
theorem ISl.form {w : World} {v : Value} {l : List Int} (h : ISl w v l) : ∃ a cap, v = .slice a l.length cap := by
  rcases h with ⟨g, o, cap, h1, h2⟩ | ⟨a, c, h1, h2⟩
  · exact ⟨_, _, h1⟩
  · subst h2; exact ⟨a, c, h1⟩
theorem ISl.some {w : World} {v : Value} {l : List Int} (h : ISl w v l) (h1 : 1 ≤ l.length) : ∃ g o cap, v = .slice (some ⟨g, o, none⟩) l.length cap ∧ ∀ i, i < l.length → w.cell? ⟨g, o + i, none⟩ = some (.int .i64 (l.getD i 0)) := by
  rcases h with h | ⟨_, _, _, h2⟩
  · exact h
  · subst h2; cases h1
end Go.Proofs.YtmgpaheobhfioaaDoor
/- Sums of products with weights, where each product is a number. -/
namespace Go.Proofs.YtmgpaheobhfioaaDoor
open Go.RowKit
set_option linter.unusedVariables false
set_option linter.unusedSimpArgs false

/-- The sum of products. -/
def dotF (l : List Nat) : Nat := if l = [] then 0 else l.foldl add64V 9223372036854775808
set_option maxHeartbeats 4000000 in
set_option maxRecDepth 100000 in
theorem dot_fin (vw vl : Value) (W : List Int) (S Ps : List Nat) (w : World) (hw : ISl w vw W) (hl : USl w vl S) (hn : S.length ≤ 35184372087808) (he : W.length = S.length) (hb : ∀ i, S.getD i 0 < 4294967296)
    (hW : ∀ i, i < W.length → W.getD i 0 ≤ 268435456 ∧ -268435456 ≤ W.getD i 0) (hP : Ps.length = S.length) (hp : ∀ i, i < S.length → floatBits .mul .f64 (floatOfInt .f64 (W.getD i 0)) (wideW (S.getD i 0)) = some (Ps.getD i 0)) :
    Calls Tryd.prog 55 #[vw, vl] w fun e w' => ∃ X : Nat, e = .returned (.tuple #[.float .f64 X, .int .i64 0]) ∧ X < 18446744073709551616 ∧ canW X = dotF Ps ∧ Q w w' := by
  obtain ⟨aw, cw, rfl⟩ := hw.form
  obtain ⟨al, cl, rfl⟩ := hl.form
  have hn' : W.length ≤ 35184372087808 := by rw [he]; exact hn
  have ne0 : ((W.length : Int) != (S.length : Int)) = false := by rw [he]; simp
  have HS : Hid (USl w (.slice al S.length cl) S) := hl
  have HI : Hid (ISl w (.slice aw W.length cw) W) := hw
  have HB : Hid (∀ i, S.getD i 0 < 4294967296) := hb
  have HW : Hid _ := hW
  have HP : Hid _ := hp
  have HE : Hid (W.length = S.length) := he
  have HL : Hid (Ps.length = S.length) := hP
  clear hl hw hb hW hp he hP
  go_enter Tryd.func55, Tryd.ntmps55
  go_wp2_with fail
  go_loopg [19] (W.length) (fun gh s19 wr => ∃ i : Nat, s19 = .int .i64 (i : Int) ∧ i ≤ W.length ∧ gh = W.length - i ∧ wr = w)
  case atStart => exact ⟨0, rfl, by omega, rfl, rfl⟩
  case round =>
    obtain ⟨i, rfl, hi, rfl, rfl⟩ := hrel
    by_cases hlt : i < W.length
    · obtain ⟨g, o, cap', hsl, hI⟩ := HI.out.some (by omega)
      injection hsl with hs1 hs2 hs3
      subst hs1 hs3
      clear hs2
      have hc := hI i hlt
      obtain ⟨h1, h2⟩ := HW.out i hlt
      have h1' : ¬ 268435456 < W.getD i 0 := by omega
      have h2' : ¬ W.getD i 0 < -268435456 := by omega
      generalize W.getD i 0 = x at *
      clear hI h1 h2
      go_wp2_with fail
      go_roundg (W.length - (i + 1))
      case measure => go_light; omega
      case rel => go_light; exact ⟨i + 1, by simp, by omega, rfl, rfl⟩
    · obtain rfl : i = W.length := by omega
      have hge : ¬ (W.length : Int) < (W.length : Int) := by omega
      by_cases h0 : S.length = 0
      · have b0 : ((S.length : Int) == 0) = true := by rw [h0]; rfl
        have HF : Hid (dotF Ps = 0) := by
          show dotF Ps = 0
          rw [List.eq_nil_of_length_eq_zero (HL.out.trans h0)]; rfl
        clear h0
        go_wp2_with fail
        go_ret2
        exact ⟨0, rfl, by decide, by rw [HF.out]; decide +kernel, Q.refl _⟩
      · have b0 : ((S.length : Int) == 0) = false := by rw [beq_eq_false_iff_ne]; omega
        have HF : Hid (dotF Ps = Ps.foldl add64V 9223372036854775808) := by
          show dotF Ps = _
          unfold dotF
          rw [if_neg (fun e => h0 (by rw [← HL.out, e]; rfl))]
        clear h0
        go_wp2_with fail
        refine (copysign_any _).mono ?_
        rintro e w0 ⟨rfl, rfl⟩
        go_wp2_with fail
        go_loopg [8, 36] (S.length) (fun gh s8 s36 wr => ∃ i X : Nat, s8 = .float .f64 X ∧ Hid (canW X = (Ps.take i).foldl add64V 9223372036854775808) ∧ X < 18446744073709551616 ∧ s36 = .int .i64 (i : Int) ∧ i ≤ S.length ∧ gh = S.length - i ∧ Q w0 wr)
        case atStart => exact ⟨0, 9223372036854775808, rfl, (show canW 9223372036854775808 = 9223372036854775808 by decide +kernel), by decide, rfl, by omega, rfl, Q.refl _⟩
        case round =>
          obtain ⟨i, X, rfl, HX, hX, rfl, hi2, rfl, qr⟩ := hrel
          by_cases hlt : i < S.length
          · obtain ⟨g, o, cap', hsl, hcap, hI⟩ := HS.out.some (by omega)
            injection hsl with hs1 hs2 hs3
            subst hs1 hs3
            clear hs2
            have hwi : i < W.length := by rw [HE.out]; exact hlt
            have hwi' : (i : Int) < (W.length : Int) := by omega
            obtain ⟨g2, o2, cap2, hsl2, hI2⟩ := HI.out.some (by omega)
            injection hsl2 with hs1 hs2 hs3
            subst hs1 hs3
            clear hs2
            have hc := qr.cell (hI i hlt)
            have hc2 := qr.cell (hI2 i hwi)
            have hx := HB.out i
            have hpi := HP.out i hlt
            have HFo : Hid ((Ps.take (i + 1)).foldl add64V 9223372036854775808 = add64V ((Ps.take i).foldl add64V 9223372036854775808) (Ps.getD i 0)) := take_succ_foldl _ _ _ _ (by rw [HL.out]; exact hlt)
            have HQ : Hid (Q w0 wr) := qr
            generalize S.getD i 0 = x at *
            generalize W.getD i 0 = y at *
            generalize Ps.getD i 0 = p at *
            have HC : Hid (∀ X', canW X' = add64V X p → canW X' = (Ps.take (i + 1)).foldl add64V 9223372036854775808) := fun X' h => by rw [HFo.out, ← HX.out, can_sum]; exact h
            have l1 := fun w => run_float_arith (P := Tryd.prog) w .mul 86 .f64 _ _ _ hpi
            have SW : Hid (∀ n : QW wr, Calls Tryd.prog 53 #[.int .u32 (x : Int)] n.x fun e w' => e = .returned (.float .f64 (wideW x)) ∧ Q n.x w') := fun n => swide_any x hx n.x
            clear qr HFo HX hI hI2 hpi
            have dc2 := qw_cell hc2
            have n0 := qw_some wr
            go_wp2_with fail
            refine wp_region_quiet_Q (by kernel_rfl) (by kernel_rfl) ?_
            repeat (first | go_big_quiet_step (first | (go_at_call 53; exact calls_qw (SW.out _))) | quiet_step (first | (go_at_call 53; exact calls_qw (SW.out _))))
            refine wpQuiet_nil ?_
            intro w4 hw'
            have hq4 := qw_out hw'
            clear hw' n0 dc2 SW hc hc2
            cases hd : (Ieee.double.read X).sum (Ieee.double.read p) with
            | none =>
              have hf : floatBits .add .f64 X p = none := by
                show ((Ieee.double.read X).sum (Ieee.double.read p)).map Ieee.double.write = none
                rw [hd]; rfl
              have l2 := fun w => run_arith_none .add (by simp) 86 .f64 X p hf Tryd.prog w
              have HE2 : Hid (add64V X p = 9221120237041090560) := by show add64V X p = _; unfold add64V; rw [hd]; rfl
              clear hd hf l1
              go_wp2_with fail
              go_roundg (S.length - (i + 1))
              case measure => go_light; omega
              case rel =>
                go_light
                exact ⟨i + 1, _, rfl, HC.out _ (by rw [HE2.out]; exact can_none _ _ _), (nanw64 _ _ _).2, by simp, by omega, rfl, (HQ.out.trans hq4).drew⟩
            | some d =>
              have hf : floatBits .add .f64 X p = some (Ieee.double.write d) := by
                show ((Ieee.double.read X).sum (Ieee.double.read p)).map Ieee.double.write = _
                rw [hd]; rfl
              have l2 := fun w => run_float_arith (P := Tryd.prog) w .add 86 .f64 X p _ hf
              have HE2 : Hid (add64V X p = told64 (some d)) := by show add64V X p = _; unfold add64V; rw [hd]
              have HD : Hid (d.isNaN = false) := sum_num hd
              clear hd hf l1
              go_wp2_with fail
              go_roundg (S.length - (i + 1))
              case measure => go_light; omega
              case rel =>
                go_light
                exact ⟨i + 1, _, rfl, HC.out _ (by rw [HE2.out]; exact can_some HD.out), write64_lt _, by simp, by omega, rfl, HQ.out.trans hq4⟩
          · obtain rfl : i = S.length := by omega
            have hge2 : ¬ (S.length : Int) < (S.length : Int) := by omega
            have HQ : Hid (Q w0 wr) := qr
            have HZ : Hid (canW X = dotF Ps) := by
              show canW X = dotF Ps
              rw [HF.out, HX.out, ← HL.out, List.take_of_length_le (Nat.le_refl _)]
            clear qr HX
            go_wp2_with fail
            go_ret2
            exact ⟨X, rfl, hX, HZ.out, HQ.out⟩
set_option maxHeartbeats 1000000 in
theorem dot_short (vw vl : Value) (W : List Int) (S : List Nat) (w : World) (hw : ISl w vw W) (hl : USl w vl S) (he : W.length ≠ S.length) :
    Calls Tryd.prog 55 #[vw, vl] w fun e w' => e = .returned (.tuple #[.float .f64 0, .int .i64 30]) ∧ w' = w := by
  obtain ⟨aw, cw, rfl⟩ := hw.form
  obtain ⟨al, cl, rfl⟩ := hl.form
  have ne0 : ((W.length : Int) != (S.length : Int)) = true := by rw [bne_iff_ne]; omega
  clear hw hl he
  go_enter Tryd.func55, Tryd.ntmps55
  go_wp2_with fail
  go_ret2
  exact ⟨rfl, rfl⟩
set_option maxHeartbeats 1000000 in
theorem dot64_short (vw vl : Value) (W : List Int) (S : List Nat) (w : World) (hw : ISl w vw W) (hl : USl w vl S) (he : W.length ≠ S.length) :
    Calls Tryd.prog 29 #[vw, vl] w fun e w' => e = .returned (.tuple #[.int .u64 0, .int .i64 30]) ∧ w' = w := by
  have HD : Hid _ := dot_short vw vl W S w hw hl he
  clear hw hl he
  go_enter Tryd.func29, Tryd.ntmps29
  go_wp2_with fail
  refine Calls.mono HD.out ?_
  rintro e w1 ⟨rfl, rfl⟩
  go_wp2_with fail
  go_ret2
  exact ⟨rfl, rfl⟩
set_option maxHeartbeats 1000000 in
theorem dot64_of {vw vl : Value} {w : World} {D : Nat} (H : Calls Tryd.prog 55 #[vw, vl] w fun e w' => ∃ X : Nat, e = .returned (.tuple #[.float .f64 X, .int .i64 0]) ∧ X < 18446744073709551616 ∧ canW X = D ∧ Q w w') :
    Calls Tryd.prog 29 #[vw, vl] w fun e w' => e = .returned (.tuple #[.int .u64 (D : Nat), .int .i64 0]) ∧ Q w w' := by
  have HD : Hid _ := H
  clear H
  go_enter Tryd.func29, Tryd.ntmps29
  go_wp2_with fail
  refine Calls.mono HD.out ?_
  rintro e w1 ⟨X, rfl, hX, hc, q1⟩
  have HC : Hid (canW X = D) := hc
  clear hc
  go_wp2_with fail
  refine (widebits_any X hX _).mono ?_
  rintro e w2 ⟨rfl, rfl⟩
  rw [HC.out]
  go_wp2_with fail
  go_ret2
  exact ⟨rfl, q1⟩
/-- A 65536th of a binary64, as a sample. -/
def overW (X : Nat) : Nat := match floatBits .quo .f64 X 4679240012837945344 with
  | none => 2143289344
  | some Z => toldD (some (Ieee.double.read Z))
theorem quo_nan {X : Nat} (h : nan64 X = true) : floatBits .quo .f64 X 4679240012837945344 = none := by
  obtain ⟨s, t, e⟩ := isNaN_cases (read64_nan h)
  show ((Ieee.double.read X).quotient (Ieee.double.fractionBits + 2) (Ieee.double.read 4679240012837945344)).map Ieee.double.write = none
  rw [e]
  rfl
theorem told_nan {X : Nat} (h : nan64 X = true) : toldD (some (Ieee.double.read X)) = 2143289344 := by
  obtain ⟨s, t, e⟩ := isNaN_cases (read64_nan h)
  rw [e]
  rfl
theorem over_can (X : Nat) : overW (canW X) = overW X := by
  unfold canW
  cases h : nan64 X
  · rfl
  · rw [if_pos rfl]
    unfold overW
    rw [quo_nan h, quo_nan made64]
set_option maxHeartbeats 1000000 in
theorem dot_of {vw vl : Value} {w : World} {D : Nat} (H : Calls Tryd.prog 55 #[vw, vl] w fun e w' => ∃ X : Nat, e = .returned (.tuple #[.float .f64 X, .int .i64 0]) ∧ X < 18446744073709551616 ∧ canW X = D ∧ Q w w') :
    Calls Tryd.prog 30 #[vw, vl] w fun e w' => e = .returned (.tuple #[.int .u32 (overW D : Nat), .int .i64 0]) ∧ Q w w' := by
  have HD : Hid _ := H
  clear H
  go_enter Tryd.func30, Tryd.ntmps30
  go_wp2_with fail
  refine Calls.mono HD.out ?_
  rintro e w1 ⟨X, rfl, hX, hc, q1⟩
  have HO : Hid (overW D = overW X) := by
    show overW D = overW X
    rw [← hc, over_can]
  clear hc
  cases hf : floatBits .quo .f64 X 4679240012837945344 with
  | none =>
    have l2 := fun w => run_arith_none .quo (by simp) 86 .f64 X 4679240012837945344 hf Tryd.prog w
    have HT : Hid (overW X = 2143289344) := by
      show overW X = _
      unfold overW; rw [hf]
    clear hf
    go_wp2_with fail
    refine (snarrow_any _ _).mono ?_
    rintro e w2 ⟨rfl, q2⟩
    rw [told_nan (nanw64 _ _ _).1]
    go_wp2_with fail
    go_ret2
    exact ⟨by rw [HO.out, HT.out]; rfl, (q1.drew).trans q2⟩
  | some Z =>
    have l2 := fun w => run_float_arith (P := Tryd.prog) w .quo 86 .f64 X 4679240012837945344 _ hf
    have HT : Hid (overW X = toldD (some (Ieee.double.read Z))) := by
      show overW X = _
      unfold overW; rw [hf]
    clear hf
    go_wp2_with fail
    refine (snarrow_any _ _).mono ?_
    rintro e w2 ⟨rfl, q2⟩
    rw [← HT.out, ← HO.out]
    go_wp2_with fail
    go_ret2
    exact ⟨rfl, q1.trans q2⟩
end Go.Proofs.YtmgpaheobhfioaaDoor
/- The chapter's examples: what the program tells of them. -/
namespace Go.Proofs.YtmgpaheobhfioaaDoor
open Go.RowKit
set_option linter.unusedVariables false
set_option linter.unusedSimpArgs false
set_option maxRecDepth 100000

def kl1 : List Nat := [1065353216, 864026624, 864026624]
def kl2 : List Nat := [2130706432, 2130706432, 4278190080]
def kl3 : List Nat := [2147483648, 2147483648]
def kl4 : List Nat := [1065353216, 864026624]
def kl5 : List Nat := [1065353216, 1077936128]
def kl6 : List Nat := [1065353216, 1065353216, 1]
theorem k1 : leftV kl1 = 1065353216 := by decide +kernel
theorem k2 : pairsV kl1 = 1065353217 := by decide +kernel
theorem k3 : sumV kl1 1 = 1065353217 := by decide +kernel
theorem k4 : kahV kl1 = 1065353217 := by decide +kernel
theorem k5 : left64V kl1 = 4607182419336888320 := by decide +kernel
theorem k6 : leftV kl2 = 2139095040 := by decide +kernel
theorem k7 : sumV kl2 1 = 2130706432 := by decide +kernel
theorem k8 : sumV kl3 1 = 2147483648 := by decide +kernel
theorem k9a : floatBits .mul .f64 (floatOfInt .f64 1) (wideW 1065353216) = some 4607182418800017408 := by decide +kernel
theorem k9b : floatBits .mul .f64 (floatOfInt .f64 (-1)) (wideW 864026624) = some 13722468064597901312 := by decide +kernel
theorem k9 : dotF [4607182418800017408, 13722468064597901312] = 4607182418263146496 := by decide +kernel
theorem k10a : floatBits .mul .f64 (floatOfInt .f64 32768) (wideW 1065353216) = some 4674736413210574848 := by decide +kernel
theorem k10b : floatBits .mul .f64 (floatOfInt .f64 32768) (wideW 1077936128) = some 4681491812651630592 := by decide +kernel
theorem k10 : overW (dotF [4674736413210574848, 4681491812651630592]) = 1073741824 := by decide +kernel
theorem k11 : overV [] 0 = (0, 33) := by decide +kernel
theorem k12 : sumV kl6 1 = 1073741824 := by decide +kernel
theorem k13 : overV kl6 3 = (1059760811, 0) := by decide +kernel
theorem k14 : sumV (kl6 ++ kl6) 1 = 1082130432 := by decide +kernel
theorem small_of {l : List Nat} (h : l.all (· < 4294967296) = true) : (∀ s ∈ l, s < 4294967296) ∧ ∀ i, l.getD i 0 < 4294967296 := by
  have h1 : ∀ s ∈ l, s < 4294967296 := fun s hs => by simpa using List.all_eq_true.1 h s hs
  refine ⟨h1, fun i => ?_⟩
  rcases Nat.lt_or_ge i l.length with g | g
  · rw [List.getD_eq_getElem?_getD, List.getElem?_eq_getElem g]
    exact h1 _ (List.getElem_mem g)
  · rw [List.getD_eq_getElem?_getD, List.getElem?_eq_none g]
    decide
/-- A list just made. -/
structure Lst (w : World) (v : Value) (l : List Nat) : Prop where
  u : USl w v l
  b : ∃ g c, v = .slice (some ⟨g, 0, none⟩) l.length c ∧ g < w.heap.size
theorem Lst.next {w w' : World} {v : Value} {l : List Nat} (h : Lst w v l) (q : Q w w') : Lst w' v l := by
  obtain ⟨u, g, c, e, hg⟩ := h
  exact ⟨u.next q, g, c, e, Nat.lt_of_lt_of_le hg q.1.size⟩
theorem lst3 (w : World) (a b c : Nat) (t : TypeId) : Lst (w.alloc (.cells #[.int .u32 (a : Int), .int .u32 (b : Int), .int .u32 (c : Int)] t)) (.slice (some ⟨w.heap.size, 0, none⟩) 3 3) [a, b, c] := by
  refine ⟨Or.inl ⟨w.heap.size, 0, 3, rfl, Nat.le_refl 3, fun i hi => ?_⟩, w.heap.size, 3, rfl, by simp [go_sem]⟩
  rcases i with _ | _ | _ | i
  · simp [go_sem]
  · simp [go_sem]
  · simp [go_sem]
  · simp at hi; omega
theorem lst2 (w : World) (a b : Nat) (t : TypeId) : Lst (w.alloc (.cells #[.int .u32 (a : Int), .int .u32 (b : Int)] t)) (.slice (some ⟨w.heap.size, 0, none⟩) 2 2) [a, b] := by
  refine ⟨Or.inl ⟨w.heap.size, 0, 2, rfl, Nat.le_refl 2, fun i hi => ?_⟩, w.heap.size, 2, rfl, by simp [go_sem]⟩
  rcases i with _ | _ | i
  · simp [go_sem]
  · simp [go_sem]
  · simp at hi; omega
theorem ist2 (w : World) (a b : Int) (t : TypeId) : ISl (w.alloc (.cells #[.int .i64 a, .int .i64 b] t)) (.slice (some ⟨w.heap.size, 0, none⟩) 2 2) [a, b] := by
  refine Or.inl ⟨w.heap.size, 0, 2, rfl, fun i hi => ?_⟩
  rcases i with _ | _ | i
  · simp [go_sem]
  · simp [go_sem]
  · simp at hi; omega
theorem ist1 (w : World) (a : Int) (t : TypeId) : ISl (w.alloc (.cells #[.int .i64 a] t)) (.slice (some ⟨w.heap.size, 0, none⟩) 1 1) [a] := by
  refine Or.inl ⟨w.heap.size, 0, 1, rfl, fun i hi => ?_⟩
  rcases i with _ | i
  · simp [go_sem]
  · simp at hi
theorem kn_left1 {v : Value} {w : World} (h : Lst w v kl1) : Calls Tryd.prog 24 #[v] w fun e w' => e = .returned (.int .u32 1065353216) ∧ Q w w' := by
  have := left_any v kl1 w h.u (by decide); rw [k1] at this; exact this
theorem kn_pairs {v : Value} {w : World} (h : Lst w v kl1) : Calls Tryd.prog 25 #[v] w fun e w' => e = .returned (.int .u32 1065353217) ∧ Q w w' := by
  have := pairs_any 3 v kl1 w (by decide) h.u (by decide); rw [k2] at this; exact this
theorem kn_kah {v : Value} {w : World} (h : Lst w v kl1) : Calls Tryd.prog 27 #[v] w fun e w' => e = .returned (.int .u32 1065353217) ∧ Q w w' := by
  have := kahan_any v kl1 w h.u (by decide); rw [k4] at this; exact this
theorem kn_left64 {v : Value} {w : World} (h : Lst w v kl1) : Calls Tryd.prog 28 #[v] w fun e w' => e = .returned (.int .u64 4607182419336888320) ∧ Q w w' := by
  have := left64_any v kl1 w h.u (by decide) (small_of (by decide)).2; rw [k5] at this; exact this
theorem kn_left2 {v : Value} {w : World} (h : Lst w v kl2) : Calls Tryd.prog 24 #[v] w fun e w' => e = .returned (.int .u32 2139095040) ∧ Q w w' := by
  have := left_any v kl2 w h.u (by decide); rw [k6] at this; exact this
theorem exact_lst {v : Value} {w : World} {l : List Nat} (h : Lst w v l) (hl : l.all (· < 4294967296) = true) (hn : l.length ≤ 2147483648) (hT : Tab w) : Calls Tryd.prog 26 #[v] w fun e w' => e = .returned (.int .u32 (sumV l 1 : Nat)) ∧ Q w w' := by
  refine exact_any v l w h.u (fun g o cap e => ?_) (small_of hl).2 hn hT
  obtain ⟨_, g2, c, e2, hg⟩ := h
  rw [e] at e2
  injection e2 with e3
  injection e3 with e3
  injection e3 with e3
  rw [e3]; exact hg
theorem kn_exact1 {v : Value} {w : World} (h : Lst w v kl1) (hT : Tab w) : Calls Tryd.prog 26 #[v] w fun e w' => e = .returned (.int .u32 1065353217) ∧ Q w w' := by
  have := exact_lst h (by decide) (by decide) hT; rw [k3] at this; exact this
theorem kn_exact2 {v : Value} {w : World} (h : Lst w v kl2) (hT : Tab w) : Calls Tryd.prog 26 #[v] w fun e w' => e = .returned (.int .u32 2130706432) ∧ Q w w' := by
  have := exact_lst h (by decide) (by decide) hT; rw [k7] at this; exact this
theorem kn_exact3 {v : Value} {w : World} (h : Lst w v kl3) (hT : Tab w) : Calls Tryd.prog 26 #[v] w fun e w' => e = .returned (.int .u32 2147483648) ∧ Q w w' := by
  have := exact_lst h (by decide) (by decide) hT; rw [k8] at this; exact this
theorem kn_dot64 {u v : Value} {w : World} (hw : ISl w u [1, -1]) (h : Lst w v kl4) : Calls Tryd.prog 29 #[u, v] w fun e w' => e = .returned (.tuple #[.int .u64 4607182418263146496, .int .i64 0]) ∧ Q w w' := by
  have := dot64_of (dot_fin u v [1, -1] kl4 [4607182418800017408, 13722468064597901312] w hw h.u (by decide) rfl (small_of (by decide)).2 (fun i hi => by
    rcases i with _ | _ | i
    · exact ⟨by decide, by decide⟩
    · exact ⟨by decide, by decide⟩
    · simp at hi; omega) rfl (fun i hi => by
    rcases i with _ | _ | i
    · exact k9a
    · exact k9b
    · simp [kl4] at hi; omega))
  rw [k9] at this; exact this
theorem kn_dot {u v : Value} {w : World} (hw : ISl w u [32768, 32768]) (h : Lst w v kl5) : Calls Tryd.prog 30 #[u, v] w fun e w' => e = .returned (.tuple #[.int .u32 1073741824, .int .i64 0]) ∧ Q w w' := by
  have := dot_of (dot_fin u v [32768, 32768] kl5 [4674736413210574848, 4681491812651630592] w hw h.u (by decide) rfl (small_of (by decide)).2 (fun i hi => by
    rcases i with _ | _ | i
    · exact ⟨by decide, by decide⟩
    · exact ⟨by decide, by decide⟩
    · simp at hi; omega) rfl (fun i hi => by
    rcases i with _ | _ | i
    · exact k10a
    · exact k10b
    · simp [kl5] at hi; omega))
  rw [k10] at this; exact this
theorem kn_short {u : Value} {w : World} (hw : ISl w u [1]) : Calls Tryd.prog 29 #[u, .slice none 0 0] w fun e w' => e = .returned (.tuple #[.int .u64 0, .int .i64 30]) ∧ w' = w :=
  dot64_short u (.slice none 0 0) [1] [] w hw (Or.inr ⟨none, 0, rfl, rfl⟩) (by decide)
theorem kn_mean0 {B : Nat} {w : World} (h : AccOf w B [] 0 (fun _ => 0)) (hT : Tab w) : Calls Tryd.prog 31 #[.pointer (some ⟨B, 0, none⟩)] w fun e w' => e = .returned (.tuple #[.int .u32 0, .int .i64 33]) ∧ Q w w' := by
  have := amean_any [] B 0 _ w h (sumZ_fits (by simp) (by decide)) hT
  rw [show ((0 : Nat) : Int) = 0 from rfl, k11] at this
  exact this
theorem kn_mean {B : Nat} {w : World} {N : Nat → Nat} (h : AccOf w B kl6 3 N) (hT : Tab w) : Calls Tryd.prog 31 #[.pointer (some ⟨B, 0, none⟩)] w fun e w' => e = .returned (.tuple #[.int .u32 1059760811, .int .i64 0]) ∧ Q w w' := by
  have := amean_any kl6 B 3 _ w h (sumZ_fits (small_of (by decide)).1 (by decide)) hT
  rw [show ((3 : Nat) : Int) = 3 from rfl, k13] at this
  exact this
theorem kn_sum {B c : Nat} {w : World} {N : Nat → Nat} (h : AccOf w B kl6 c N) (hT : Tab w) : Calls Tryd.prog 32 #[.pointer (some ⟨B, 0, none⟩)] w fun e w' => e = .returned (.int .u32 1073741824) ∧ Q w w' := by
  have := asum_any kl6 B c _ w h (sumZ_fits (small_of (by decide)).1 (by decide)) hT
  rw [k12] at this
  exact this
theorem kn_sum2 {B c : Nat} {w : World} {N : Nat → Nat} (h : AccOf w B (kl6 ++ kl6) c N) (hT : Tab w) : Calls Tryd.prog 32 #[.pointer (some ⟨B, 0, none⟩)] w fun e w' => e = .returned (.int .u32 1082130432) ∧ Q w w' := by
  have := asum_any (kl6 ++ kl6) B c _ w h (sumZ_fits (small_of (by decide)).1 (by decide)) hT
  rw [k14] at this
  exact this
set_option maxHeartbeats 8000000 in
theorem known_any (w : World) (hT : Tab w) : Calls Tryd.prog 5 #[] w fun e w' => e = .returned (.bool true) ∧ Q w w' := by
  have HT : Hid (Tab w) := hT
  clear hT
  go_enter Tryd.func5, Tryd.ntmps5
  go_wp2_with fail
  have HL : Hid (Lst _ _ kl1) := lst3 w 1065353216 864026624 864026624 36
  have HQ : Hid (Q w _) := (Q.refl w).cells #[.int .u32 1065353216, .int .u32 864026624, .int .u32 864026624] 36
  refine (kn_left1 HL.out).mono ?_
  rintro e w1 ⟨rfl, q1⟩
  have HL1 : Hid (Lst w1 _ kl1) := HL.out.next q1
  have HQ1 : Hid (Q w w1) := HQ.out.trans q1
  clear HL HQ q1
  go_wp2_with fail
  refine (kn_pairs HL1.out).mono ?_
  rintro e w2 ⟨rfl, q2⟩
  have HL2 : Hid (Lst w2 _ kl1) := HL1.out.next q2
  have HQ2 : Hid (Q w w2) := HQ1.out.trans q2
  clear HL1 HQ1 q2
  go_wp2_with fail
  refine (kn_exact1 HL2.out (HQ2.out.tab HT.out)).mono ?_
  rintro e w3 ⟨rfl, q3⟩
  have HL3 : Hid (Lst w3 _ kl1) := HL2.out.next q3
  have HQ3 : Hid (Q w w3) := HQ2.out.trans q3
  clear HL2 HQ2 q3
  go_wp2_with fail
  refine (kn_kah HL3.out).mono ?_
  rintro e w4 ⟨rfl, q4⟩
  have HL4 : Hid (Lst w4 _ kl1) := HL3.out.next q4
  have HQ4 : Hid (Q w w4) := HQ3.out.trans q4
  clear HL3 HQ3 q4
  go_wp2_with fail
  refine (kn_left64 HL4.out).mono ?_
  rintro e w5 ⟨rfl, q5⟩
  have HQ5 : Hid (Q w w5) := HQ4.out.trans q5
  clear HL4 HQ4 q5
  go_wp2_with fail
  have HQ6 : Hid (Q w _) := HQ5.out.cells #[.int .u32 2130706432, .int .u32 2130706432, .int .u32 4278190080] 36
  refine (kn_left2 (lst3 w5 2130706432 2130706432 4278190080 36)).mono ?_
  rintro e w6 ⟨rfl, q6⟩
  have HQ7 : Hid (Q w w6) := HQ6.out.trans q6
  clear HQ5 HQ6 q6
  go_wp2_with fail
  have HQ8 : Hid (Q w _) := HQ7.out.cells #[.int .u32 2130706432, .int .u32 2130706432, .int .u32 4278190080] 36
  refine (kn_exact2 (lst3 w6 2130706432 2130706432 4278190080 36) (HQ8.out.tab HT.out)).mono ?_
  rintro e w7 ⟨rfl, q7⟩
  have HQ9 : Hid (Q w w7) := HQ8.out.trans q7
  clear HQ7 HQ8 q7
  go_wp2_with fail
  have HQ10 : Hid (Q w _) := HQ9.out.cells #[.int .u32 2147483648, .int .u32 2147483648] 36
  refine (kn_exact3 (lst2 w7 2147483648 2147483648 36) (HQ10.out.tab HT.out)).mono ?_
  rintro e w8 ⟨rfl, q8⟩
  have HQ11 : Hid (Q w w8) := HQ10.out.trans q8
  clear HQ9 HQ10 q8
  go_wp2_with fail
  have qa : Q w8 (w8.alloc (.cells #[.int .i64 1, .int .i64 (-1)] 3)) := (Q.refl w8).cells _ _
  have qb : Q (w8.alloc (.cells #[.int .i64 1, .int .i64 (-1)] 3)) ((w8.alloc (.cells #[.int .i64 1, .int .i64 (-1)] 3)).alloc (.cells #[.int .u32 1065353216, .int .u32 864026624] 36)) := (Q.refl _).cells _ _
  have HQ12 : Hid (Q w _) := (HQ11.out.trans qa).trans qb
  have hL := lst2 (w8.alloc (.cells #[.int .i64 1, .int .i64 (-1)] 3)) 1065353216 864026624 36
  rw [show (w8.alloc (.cells #[.int .i64 1, .int .i64 (-1)] 3)).heap.size = w8.heap.size + 1 by simp [go_sem]] at hL
  refine (kn_dot64 ((ist2 w8 1 (-1) 3).next qb) hL).mono ?_
  rintro e w9 ⟨rfl, q9⟩
  have HQ13 : Hid (Q w w9) := HQ12.out.trans q9
  clear HQ11 HQ12 q9 qa qb hL
  go_wp2_with fail
  have qa : Q w9 (w9.alloc (.cells #[.int .i64 32768, .int .i64 32768] 3)) := (Q.refl w9).cells _ _
  have qb : Q (w9.alloc (.cells #[.int .i64 32768, .int .i64 32768] 3)) ((w9.alloc (.cells #[.int .i64 32768, .int .i64 32768] 3)).alloc (.cells #[.int .u32 1065353216, .int .u32 1077936128] 36)) := (Q.refl _).cells _ _
  have HQ14 : Hid (Q w _) := (HQ13.out.trans qa).trans qb
  have hL := lst2 (w9.alloc (.cells #[.int .i64 32768, .int .i64 32768] 3)) 1065353216 1077936128 36
  rw [show (w9.alloc (.cells #[.int .i64 32768, .int .i64 32768] 3)).heap.size = w9.heap.size + 1 by simp [go_sem]] at hL
  refine (kn_dot ((ist2 w9 32768 32768 3).next qb) hL).mono ?_
  rintro e w10 ⟨rfl, q10⟩
  have HQ15 : Hid (Q w w10) := HQ14.out.trans q10
  clear HQ13 HQ14 q10 qa qb hL
  go_wp2_with fail
  have HQ16 : Hid (Q w _) := HQ15.out.cells #[.int .i64 1] 3
  refine (kn_short (ist1 w10 1 3)).mono ?_
  rintro e w11 ⟨rfl, hw11⟩
  rw [← hw11] at HQ16
  clear hw11 HQ15
  go_wp2_with fail
  refine (new_any _).mono ?_
  rintro e w12 ⟨rfl, hA, q12, hs12⟩
  have HQ17 : Hid (Q w w12) := HQ16.out.trans q12
  have HA : Hid (AccOf w12 w11.heap.size [] 0 (fun _ => 0)) := hA
  have hlo : w.heap.size ≤ w11.heap.size := HQ16.out.1.size
  clear HQ16 q12 hA
  generalize w11.heap.size = A at *
  go_wp2_with fail
  refine (kn_mean0 HA.out (HQ17.out.tab HT.out)).mono ?_
  rintro e w13 ⟨rfl, q13⟩
  have HQ18 : Hid (Q w w13) := HQ17.out.trans q13
  have HA2 : Hid (AccOf w13 A [] 0 (fun _ => 0)) := HA.out.next q13
  have hs13 : A < w13.heap.size := Nat.lt_of_lt_of_le hs12 q13.1.size
  clear HQ17 q13 HA hs12
  go_wp2_with fail
  have q14 : Q w13 (w13.alloc (.cells #[.int .u32 1065353216, .int .u32 1065353216, .int .u32 1] 36)) := (Q.refl w13).cells _ _
  have HQ19 : Hid (Q w _) := HQ18.out.trans q14
  have hL := lst3 w13 1065353216 1065353216 1 36
  refine (acc_add _ kl6 [] A 0 _ _ (HA2.out.next q14) hL.u (fun g o cap _ e => by injection e with e; injection e with e; injection e with e; omega) (small_of (by decide)).2 (by decide)).mono ?_
  rintro e w15 ⟨rfl, ⟨N1, hA⟩, hF⟩
  have HQ20 : Hid (Q w w15) := hF.q HQ19.out hlo
  have HA3 : Hid (AccOf w15 A kl6 3 N1) := hA
  have hs15 : A < w15.heap.size := Nat.lt_of_lt_of_le (Nat.lt_of_lt_of_le hs13 q14.1.size) hF.size
  clear HQ18 HQ19 q14 HA2 hA hF hL hs13
  go_wp2_with fail
  refine (copy_any kl6 A 3 N1 _ HA3.out).mono ?_
  rintro e w16 ⟨rfl, hB, q16, hs16⟩
  have hne : A ≠ w15.heap.size := by omega
  have HB : Hid (AccOf w16 w15.heap.size kl6 3 N1) := hB
  have HA4 : Hid (AccOf w16 A kl6 3 N1) := HA3.out.next q16
  have HQ21 : Hid (Q w w16) := HQ20.out.trans q16
  have hlo2 : w.heap.size ≤ w15.heap.size := HQ20.out.1.size
  clear HA3 HQ20 hB q16 hs16 hs15
  generalize w15.heap.size = B at *
  go_wp2_with fail
  refine (merge_any kl6 kl6 B A 3 3 N1 N1 _ HB.out HA4.out (by decide)).mono ?_
  rintro e w17 ⟨rfl, hB2, hF⟩
  have HB2 : Hid (AccOf w17 B (kl6 ++ kl6) 6 (dgV N1 N1)) := hB2
  have HA5 : Hid (AccOf w17 A kl6 3 N1) := HA4.out.far hF hne
  have HQ22 : Hid (Q w w17) := hF.q HQ21.out hlo2
  clear HB HA4 HQ21 hF hB2
  go_wp2_with fail
  refine (kn_mean HA5.out (HQ22.out.tab HT.out)).mono ?_
  rintro e w18 ⟨rfl, q18⟩
  have HB3 : Hid (AccOf w18 B (kl6 ++ kl6) 6 (dgV N1 N1)) := HB2.out.next q18
  have HA6 : Hid (AccOf w18 A kl6 3 N1) := HA5.out.next q18
  have HQ23 : Hid (Q w w18) := HQ22.out.trans q18
  clear HB2 HA5 HQ22 q18
  go_wp2_with fail
  refine (kn_sum HA6.out (HQ23.out.tab HT.out)).mono ?_
  rintro e w19 ⟨rfl, q19⟩
  have HB4 : Hid (AccOf w19 B (kl6 ++ kl6) 6 (dgV N1 N1)) := HB3.out.next q19
  have HA7 : Hid (AccOf w19 A kl6 3 N1) := HA6.out.next q19
  have HQ24 : Hid (Q w w19) := HQ23.out.trans q19
  clear HB3 HA6 HQ23 q19
  go_wp2_with fail
  refine (acount_any A 3 _ HA7.out.c).mono ?_
  rintro e w20 ⟨rfl, rfl⟩
  go_wp2_with fail
  refine (acount_any B 6 _ HB4.out.c).mono ?_
  rintro e w21 ⟨rfl, rfl⟩
  go_wp2_with fail
  refine (kn_sum2 HB4.out (HQ24.out.tab HT.out)).mono ?_
  rintro e w22 ⟨rfl, q22⟩
  go_wp2_with fail
  go_ret
  exact ⟨rfl, HQ24.out.trans q22⟩
end Go.Proofs.YtmgpaheobhfioaaDoor
/- The statement SumsOrder: its walk. -/
namespace Go.Proofs.YtmgpaheobhfioaaDoor
open Go.RowKit
set_option linter.unusedVariables false
set_option linter.unusedSimpArgs false

theorem mem_lt {l : List Nat} (hb : ∀ i, l.getD i 0 < 4294967296) : ∀ z ∈ l, z < 4294967296 := by
  intro z hz
  obtain ⟨i, hi, rfl⟩ := List.getElem_of_mem hz
  have := hb i
  rw [List.getD_eq_getElem?_getD, List.getElem?_eq_getElem hi] at this
  exact this
theorem run_app_noneU {P : Program} (w : World) (t ty e : TypeId) (i : TypeInfo) (ht : P.underlying t = some (.slice e)) (hi : P.info? e = some i) (a : Option Addr) (c : Nat) (b : Addr) (n cap : Nat) (hn : n ≤ cap) : (Builtin.append_ #[t, t] ty #[.slice (some b) n cap, .slice a 0 c]).run P w = .ok (.slice (some b) n cap) w := by
  cases a <;> simp [Builtin.append_, run_underlying ht, sizeOf, typeInfo, hi, Builtin.lenOf, Builtin.firstCells, loadCells, loadCellsFrom, storeCells, hn]
end Go.Proofs.YtmgpaheobhfioaaDoor
/- The document's Over and Mean of an exact sum, of whatever number; the statements' helper holds. -/
namespace Go.Proofs.YtmgpaheobhfioaaDoor
open Go.RowKit
set_option linter.unusedVariables false
set_option linter.unusedSimpArgs false

theorem sumV_none (d : Nat) : sumV [] d = 0 := by
  rw [sumV_fin (show metV [] < 4 by decide) d]
  rfl
set_option maxHeartbeats 2000000 in
set_option maxRecDepth 100000 in
theorem sover_gen (l : List Nat) (B : Nat) (w : World) (hS : SAt w B l) (hz : 2 * (sumZ l).natAbs < m64 ^ 5) (hn : l.length ≤ 1000000) (n : Int) :
    Calls Tryd.prog 39 #[.pointer (some ⟨B, 0, none⟩), .int .i64 n] w fun e w' => e = .returned (.tuple #[.int .u32 ((overV l n).1 : Nat), .int .i64 (overV l n).2]) ∧ Q w w' := by
  unfold overV
  by_cases h : n < 1
  · rw [if_pos (Or.inl h)]
    clear hS hz
    go_enter Tryd.func39, Tryd.ntmps39
    go_wp2_with fail
    go_ret2
    exact ⟨rfl, Q.refl _⟩
  · by_cases h2 : 4294967295 < n
    · rw [if_pos (Or.inr h2)]
      clear hS hz
      go_enter Tryd.func39, Tryd.ntmps39
      go_wp2_with fail
      go_ret2
      exact ⟨rfl, Q.refl _⟩
    · rw [if_neg (by omega)]
      obtain ⟨d, rfl⟩ : ∃ d : Nat, n = (d : Int) := ⟨n.toNat, by omega⟩
      show Calls _ _ _ _ fun e w' => e = .returned (.tuple #[.int .u32 (sumV l d : Nat), .int .i64 0]) ∧ Q w w'
      by_cases h0 : l = []
      · subst h0
        rw [sumV_none]
        obtain ⟨k0, s, p, L, C, e, m, h1, _⟩ := hS
        have d5 := h1.n
        clear h1 hz
        go_enter Tryd.func39, Tryd.ntmps39
        go_wp2_with fail
        go_ret2
        exact ⟨rfl, Q.refl _⟩
      · exact sover_any l B w hS h0 hz hn d (by omega) (by omega)
set_option maxHeartbeats 400000 in
theorem smean_doc (l : List Nat) (B : Nat) (w : World) (hS : SAt w B l) (hz : 2 * (sumZ l).natAbs < m64 ^ 5) (hn : l.length ≤ 1000000) :
    Calls Tryd.prog 38 #[.pointer (some ⟨B, 0, none⟩)] w fun e w' => e = .returned (.tuple #[.int .u32 ((overV l l.length).1 : Nat), .int .i64 (overV l l.length).2]) ∧ Q w w' := by
  have K := sover_gen l B w hS hz hn l.length
  obtain ⟨k0, s, p, L, C, e, m, h1, _⟩ := hS
  have d5 := h1.n
  clear h1 hz
  go_enter Tryd.func38, Tryd.ntmps38
  go_wp2_with fail
  refine K.mono ?_
  rintro e w1 ⟨rfl, q1⟩
  go_wp2_with fail
  go_ret2
  exact ⟨rfl, q1⟩
/-- The numbers that are asked. -/
def askL (n : Nat) : List Int := [0, 1, 3, 7 * (n : Int), 4294967295, 4294967296, -(n : Int)]
set_option maxHeartbeats 8000000 in
set_option maxRecDepth 100000 in
theorem holds_any (A : Nat) (L : List Nat) (v : Value) (w : World) (hA : AccAt w A L) (hv : USl w v L) (hb : ∀ i, L.getD i 0 < 4294967296) (hn : L.length ≤ 100000) (hT : Tab w) :
    Calls Tryd.prog 14 #[.pointer (some ⟨A, 0, none⟩), v] w fun e w' => e = .returned (.bool true) ∧ Q w w' := by
  obtain ⟨va, vc, rfl⟩ := hv.form
  have hz : 2 * (sumZ L).natAbs < m64 ^ 5 := sumZ_fits (mem_lt hb) (by omega)
  obtain ⟨N, hacc⟩ := hA
  have HO : Hid _ := sof_any (.slice va L.length vc) L w hv (by omega) hb
  have K1 : Hid (∀ x, Q w x → Calls Tryd.prog 31 #[.pointer (some ⟨A, 0, none⟩)] x fun e w' => e = .returned (.tuple #[.int .u32 ((overV L L.length).1 : Nat), .int .i64 (overV L L.length).2]) ∧ Q x w') := fun x q => amean_any L A L.length N x (hacc.next q) hz (q.tab hT)
  have K2 : Hid (∀ (B : Nat) (x : World), SAt x B L → Calls Tryd.prog 38 #[.pointer (some ⟨B, 0, none⟩)] x fun e w' => e = .returned (.tuple #[.int .u32 ((overV L L.length).1 : Nat), .int .i64 (overV L L.length).2]) ∧ Q x w') := fun B x h => smean_doc L B x h hz (by omega)
  have K3 : Hid (∀ x, Q w x → ∀ n : Int, Calls Tryd.prog 40 #[.pointer (some ⟨A, 0, none⟩), .int .i64 n] x fun e w' => e = .returned (.tuple #[.int .u32 ((overV L n).1 : Nat), .int .i64 (overV L n).2]) ∧ Q x w') := fun x q n => aover_any L A L.length N x (hacc.next q) hz (q.tab hT) n
  have K4 : Hid (∀ (B : Nat) (x : World), SAt x B L → ∀ n : Int, Calls Tryd.prog 39 #[.pointer (some ⟨B, 0, none⟩), .int .i64 n] x fun e w' => e = .returned (.tuple #[.int .u32 ((overV L n).1 : Nat), .int .i64 (overV L n).2]) ∧ Q x w') := fun B x h n => sover_gen L B x h hz (by omega) n
  have K5 : Hid (∀ x, Q w x → Calls Tryd.prog 32 #[.pointer (some ⟨A, 0, none⟩)] x fun e w' => e = .returned (.int .u32 (sumV L 1 : Nat)) ∧ Q x w') := fun x q => asum_any L A L.length N x (hacc.next q) hz (q.tab hT)
  have K6 : Hid (∀ (B : Nat) (x : World), SAt x B L → Calls Tryd.prog 41 #[.pointer (some ⟨B, 0, none⟩)] x fun e w' => e = .returned (.int .u32 (sumV L 1 : Nat)) ∧ Q x w') := fun B x h => told_any L B x h hz (by omega)
  have K7 : Hid (∀ x, Q w x → Calls Tryd.prog 33 #[.pointer (some ⟨A, 0, none⟩)] x fun e w' => e = .returned (.int .i64 (L.length : Int)) ∧ w' = x) := fun x q => acount_any A _ x (hacc.next q).c
  clear hz hacc hv hb hT
  generalize (overV L L.length).1 = m1 at *
  generalize (overV L L.length).2 = m2 at *
  generalize sumV L 1 = sm at *
  go_enter Tryd.func14, Tryd.ntmps14
  go_wp2_with fail
  refine Calls.mono HO.out ?_
  rintro e w1 ⟨rfl, hS, q1⟩
  generalize w.heap.size = B at *
  have HS1 : Hid (SAt w1 B L) := hS
  have HQ1 : Hid (Q w w1) := q1
  clear hS q1 HO
  go_wp2_with fail
  refine Calls.mono (K2.out B w1 HS1.out) ?_
  rintro e w2 ⟨rfl, q2⟩
  have HS2 : Hid (SAt w2 B L) := HS1.out.next q2
  have HQ2 : Hid (Q w w2) := HQ1.out.trans q2
  have HQ12 : Hid (Q w1 w2) := q2
  clear q2 HS1 HQ1 K2
  go_wp2_with fail
  refine Calls.mono (K1.out w2 HQ2.out) ?_
  rintro e w3 ⟨rfl, q3⟩
  have HS3 : Hid (SAt w3 B L) := HS2.out.next q3
  have HQ3 : Hid (Q w w3) := HQ2.out.trans q3
  have HQ13 : Hid (Q w1 w3) := HQ12.out.trans q3
  clear HQ12
  clear q3 HS2 HQ2 K1
  obtain ⟨w4, hw4⟩ : ∃ w4, w3.alloc (.cells #[.int .i64 0, .int .i64 1, .int .i64 3, .int .i64 (7 * (L.length : Int)), .int .i64 4294967295, .int .i64 4294967296, .int .i64 (-(L.length : Int))] 3) = w4 := ⟨_, rfl⟩
  have q4 : Q w3 w4 := by rw [← hw4]; exact (Q.refl w3).cells _ _
  have HC : Hid (∀ i, i < 7 → w4.cell? ⟨w3.heap.size, i, none⟩ = some (.int .i64 ((askL L.length).getD i 0))) := fun i hi => by
    rw [← hw4]
    match i, hi with
    | 0, _ => simp [go_sem, askL]
    | 1, _ => simp [go_sem, askL]
    | 2, _ => simp [go_sem, askL]
    | 3, _ => simp [go_sem, askL]
    | 4, _ => simp [go_sem, askL]
    | 5, _ => simp [go_sem, askL]
    | 6, _ => simp [go_sem, askL]
  have HQ4 : Hid (Q w w4 ∧ Q w1 w4) := ⟨HQ3.out.trans q4, HQ13.out.trans q4⟩
  have HS4 : Hid (SAt w4 B L) := HS3.out.next q4
  clear q4 HQ3 HS3 HQ13
  go_wp2_with fail
  clear hw4
  generalize w3.heap.size = B7 at *
  go_loopg [38] 7 (fun m s38 wr => ∃ i : Nat, s38 = .int .i64 (i : Int) ∧ i + m = 7 ∧ Hid (Q w4 wr))
  case atStart => exact ⟨0, rfl, by omega, Q.refl _⟩
  case round =>
    obtain ⟨i, rfl, hi, HX⟩ := hrel
    by_cases hlt : i < 7
    · have hki : (i : Int) < 7 := by omega
      have c7 := HX.out.cell (HC.out i hlt)
      have KA := K4.out B wr (HS4.out.next HX.out) ((askL L.length).getD i 0)
      have KB := K3.out
      have HQr : Hid (Q w wr) := HQ4.out.1.trans HX.out
      generalize (askL L.length).getD i 0 = n at *
      go_wp2_with fail
      refine Calls.mono KA ?_
      rintro e w5 ⟨rfl, q5⟩
      have HQ5 : Hid (Q w w5 ∧ Q w4 w5) := ⟨HQr.out.trans q5, HX.out.trans q5⟩
      have KC := KB w5 HQ5.out.1 n
      clear q5 KA KB HQr HX
      generalize (overV L n).1 = a1 at *
      generalize (overV L n).2 = a2 at *
      go_wp2_with fail
      refine Calls.mono KC ?_
      rintro e w6 ⟨rfl, q6⟩
      have HQ6 : Hid (Q w4 w6) := HQ5.out.2.trans q6
      clear q6 KC HQ5
      go_wp2_with fail
      go_roundg (7 - (i + 1))
      case measure => go_light; omega
      case rel => go_light; exact ⟨i + 1, by go_num, by omega, HQ6⟩
    · obtain rfl : i = 7 := by omega
      have HQ7 : Hid (Q w wr) := HQ4.out.1.trans HX.out
      have HS7 : Hid (SAt wr B L) := HS4.out.next HX.out
      clear HX
      go_wp2_with fail
      refine Calls.mono (K5.out wr HQ7.out) ?_
      rintro e w5 ⟨rfl, q5⟩
      have HQ8 : Hid (Q w w5) := HQ7.out.trans q5
      have HS8 : Hid (SAt w5 B L) := HS7.out.next q5
      clear q5 HQ7 HS7
      go_wp2_with fail
      refine Calls.mono (K6.out B w5 HS8.out) ?_
      rintro e w6 ⟨rfl, q6⟩
      have HQ9 : Hid (Q w w6) := HQ8.out.trans q6
      clear q6 HQ8 HS8
      go_wp2_with fail
      refine Calls.mono (K7.out w6 HQ9.out) ?_
      rintro e w7 ⟨rfl, hw⟩
      obtain rfl := hw.symm
      clear hw
      go_wp2_with fail
      go_ret
      exact ⟨by simp, HQ9.out⟩
end Go.Proofs.YtmgpaheobhfioaaDoor
/- Three accumulators and three lists, in memory. -/
namespace Go.Proofs.YtmgpaheobhfioaaDoor
open Go.RowKit
set_option linter.unusedVariables false
set_option linter.unusedSimpArgs false

def up {α : Type} (f : Nat → α) (k : Nat) (x : α) : Nat → α := fun j => if j = k then x else f j
theorem up_same {α : Type} (f : Nat → α) (k : Nat) (x : α) : up f k x k = x := if_pos rfl
theorem up_other {α : Type} (f : Nat → α) {k j : Nat} (x : α) (h : j ≠ k) : up f k x j = f j := if_neg h
/-- Pointers to three accumulators in one row, three lists in another one; the accumulators are of L, the lists hold X. -/
structure Tri (w0 w : World) (BA BO : Nat) (A : Nat → Nat) (L X : Nat → List Nat) (V : Nat → Value) : Prop where
  q : Q w0 w
  pa : ∀ k, k < 3 → w.cell? ⟨BA, k, none⟩ = some (.pointer (some ⟨A k, 0, none⟩))
  po : ∀ k, k < 3 → w.cell? ⟨BO, k, none⟩ = some (V k)
  fa : ∀ j, w.frozen? ⟨BA, j, none⟩ = false
  fo : ∀ j, w.frozen? ⟨BO, j, none⟩ = false
  acc : ∀ k, k < 3 → AccAt w (A k) (L k)
  us : ∀ k, k < 3 → USl w (V k) (X k)
  ll : w0.heap.size ≤ BA ∧ w0.heap.size ≤ BO
  la : ∀ k, k < 3 → w0.heap.size ≤ A k
  ab : BA ≠ BO
  aa : ∀ k, k < 3 → A k ≠ BA ∧ A k ≠ BO
  ad : ∀ j k, j < 3 → k < 3 → j ≠ k → A j ≠ A k
  lb : ∀ k, k < 3 → ∀ g o n c, V k = .slice (some ⟨g, o, none⟩) n c → 1 ≤ (X k).length → g ≠ BA ∧ g ≠ BO ∧ ∀ j, j < 3 → g ≠ A j
section
variable {w0 w w' : World} {BA BO : Nat} {A : Nat → Nat} {L X : Nat → List Nat} {V : Nat → Value}
theorem usl_blk {w w' : World} {v : Value} {S : List Nat} (h : USl w v S) (hc : ∀ g o n c i, v = .slice (some ⟨g, o, none⟩) n c → 1 ≤ S.length → w'.cell? ⟨g, i, none⟩ = w.cell? ⟨g, i, none⟩) : USl w' v S := by
  rcases h with ⟨g, o, c, e, hcap, hI⟩ | hx
  · exact Or.inl ⟨g, o, c, e, hcap, fun i hi => (hc g o _ c _ e (by omega)).trans (hI i hi)⟩
  · exact Or.inr hx
theorem acc_in {w : World} {A : Nat} {l : List Nat} (h : AccAt w A l) : A < w.heap.size := by
  obtain ⟨N, a⟩ := h
  exact World.block_lt_of_cell? _ _ a.m
theorem Tri.next (h : Tri w0 w BA BO A L X V) (q : Q w w') : Tri w0 w' BA BO A L X V :=
  ⟨h.q.trans q, fun k hk => q.cell (h.pa k hk), fun k hk => q.cell (h.po k hk), fun j => (q.2 _).trans (h.fa j), fun j => (q.2 _).trans (h.fo j), fun k hk => (h.acc k hk).next q, fun k hk => (h.us k hk).next q, h.ll, h.la, h.ab, h.aa, h.ad, h.lb⟩
theorem Tri.in (h : Tri w0 w BA BO A L X V) : BA < w.heap.size ∧ BO < w.heap.size ∧ ∀ k, k < 3 → A k < w.heap.size :=
  ⟨World.block_lt_of_cell? _ _ (h.pa 0 (by decide)), World.block_lt_of_cell? _ _ (h.po 0 (by decide)), fun k hk => acc_in (h.acc k hk)⟩
theorem Fb.cells {w w' : World} {B g i : Nat} (f : Fb B w w') (hg : g ≠ B) (hl : g < w.heap.size) : w'.cell? ⟨g, i, none⟩ = w.cell? ⟨g, i, none⟩ := World.cell?_of_block (f.block g hl hg)
theorem usl_in {w : World} {g o n c : Nat} {S : List Nat} (h : USl w (.slice (some ⟨g, o, none⟩) n c) S) (h1 : 1 ≤ S.length) : g < w.heap.size := by
  obtain ⟨g', o', c', ev, hc, hI⟩ := h.some h1
  injection ev with e _ _
  injection e with e
  injection e with e
  subst e
  exact World.block_lt_of_cell? _ _ (hI 0 h1)
/-- Samples have been added to one of them. -/
theorem Tri.add (h : Tri w0 w BA BO A L X V) {k : Nat} (hk : k < 3) (f : Fb (A k) w w') {L' : List Nat} (ha : AccAt w' (A k) L') : Tri w0 w' BA BO A (up L k L') X V := by
  obtain ⟨i1, i2, i3⟩ := h.in
  have n := h.aa k hk
  refine ⟨f.q h.q (h.la k hk), fun j hj => f.cell (h.pa j hj) (Ne.symm n.1), fun j hj => f.cell (h.po j hj) (Ne.symm n.2), fun j => (f.frz _).trans (h.fa j), fun j => (f.frz _).trans (h.fo j), fun j hj => ?_, fun j hj => ?_, h.ll, h.la, h.ab, h.aa, h.ad, h.lb⟩
  · by_cases e : j = k
    · subst e; rw [up_same]; exact ha
    · rw [up_other _ _ e]; exact (h.acc j hj).far f (h.ad j k hj hk e)
  · refine usl_blk (h.us j hj) fun g o n c i e h1 => f.cells ((h.lb j hj g o n c e h1).2.2 k hk) ?_
    have hu := h.us j hj
    rw [e] at hu
    exact usl_in hu h1
/-- Something else has been written over. -/
theorem Tri.far (h : Tri w0 w BA BO A L X V) {B : Nat} (f : Fb B w w') (h0 : w0.heap.size ≤ B) (h1 : BA ≠ B) (h2 : BO ≠ B) (h3 : ∀ k, k < 3 → A k ≠ B) (h4 : ∀ k, k < 3 → ∀ g o n c, V k = .slice (some ⟨g, o, none⟩) n c → 1 ≤ (X k).length → g ≠ B) : Tri w0 w' BA BO A L X V := by
  refine ⟨f.q h.q h0, fun j hj => f.cell (h.pa j hj) h1, fun j hj => f.cell (h.po j hj) h2, fun j => (f.frz _).trans (h.fa j), fun j => (f.frz _).trans (h.fo j), fun j hj => (h.acc j hj).far f (h3 j hj), fun j hj => ?_, h.ll, h.la, h.ab, h.aa, h.ad, h.lb⟩
  refine usl_blk (h.us j hj) fun g o n c i e hx => f.cells (h4 j hj g o n c e hx) ?_
  have hu := h.us j hj
  rw [e] at hu
  exact usl_in hu hx
/-- Another list in the row. -/
theorem Tri.row (h : Tri w0 w BA BO A L X V) {k : Nat} (hk : k < 3) {v : Value} {S : List Nat} (hu : USl w v S) (hb : ∀ g o n c, v = .slice (some ⟨g, o, none⟩) n c → 1 ≤ S.length → g ≠ BA ∧ g ≠ BO ∧ ∀ j, j < 3 → g ≠ A j) : Tri w0 (w.setCell ⟨BO, k, none⟩ v) BA BO A L (up X k S) (up V k v) := by
  have f : Fb BO w (w.setCell ⟨BO, k, none⟩ v) := (Fb.refl BO w).set rfl v
  refine ⟨f.q h.q h.ll.2, fun j hj => f.cell (h.pa j hj) h.ab, fun j hj => ?_, fun j => (f.frz _).trans (h.fa j), fun j => (f.frz _).trans (h.fo j), fun j hj => (h.acc j hj).far f (h.aa j hj).2, fun j hj => ?_, h.ll, h.la, h.ab, h.aa, h.ad, fun j hj => ?_⟩
  · by_cases e : j = k
    · subst e; rw [up_same]; exact World.cell?_setCell_same _ _ _ (h.po j hj)
    · rw [up_other _ _ e]; exact (World.cell?_setCell_other _ _ _ _ (fun x => e (by injection x with _ x; exact x.symm))).trans (h.po j hj)
  · by_cases e : j = k
    · subst e; rw [up_same, up_same]
      refine usl_blk hu fun g o n c i e h1 => f.cells (hb g o n c e h1).2.1 ?_
      rw [e] at hu
      exact usl_in hu h1
    · rw [up_other _ _ e, up_other _ _ e]
      refine usl_blk (h.us j hj) fun g o n c i e h1 => f.cells (h.lb j hj g o n c e h1).2.1 ?_
      have hu := h.us j hj
      rw [e] at hu
      exact usl_in hu h1
  · by_cases e : j = k
    · subst e; rw [up_same, up_same]; exact hb
    · rw [up_other _ _ e, up_other _ _ e]; exact h.lb j hj
/-- Another accumulator in the row. -/
theorem Tri.ptr (h : Tri w0 w BA BO A L X V) {k : Nat} (hk : k < 3) {P : Nat} {S : List Nat} (ha : AccAt w P S) (h0 : w0.heap.size ≤ P) (h1 : P ≠ BA ∧ P ≠ BO) (h2 : ∀ j, j < 3 → A j ≠ P) (h3 : ∀ j, j < 3 → ∀ g o n c, V j = .slice (some ⟨g, o, none⟩) n c → 1 ≤ (X j).length → g ≠ P) : Tri w0 (w.setCell ⟨BA, k, none⟩ (.pointer (some ⟨P, 0, none⟩))) BA BO (up A k P) (up L k S) X V := by
  have f : Fb BA w (w.setCell ⟨BA, k, none⟩ (.pointer (some ⟨P, 0, none⟩))) := (Fb.refl BA w).set rfl _
  refine ⟨f.q h.q h.ll.1, fun j hj => ?_, fun j hj => f.cell (h.po j hj) (Ne.symm h.ab), fun j => (f.frz _).trans (h.fa j), fun j => (f.frz _).trans (h.fo j), fun j hj => ?_, fun j hj => ?_, h.ll, fun j hj => ?_, h.ab, fun j hj => ?_, fun i j hi hj hne => ?_, fun j hj g o n c e hx => ?_⟩
  · by_cases e : j = k
    · subst e; rw [up_same]; exact World.cell?_setCell_same _ _ _ (h.pa j hj)
    · rw [up_other _ _ e]; exact (World.cell?_setCell_other _ _ _ _ (fun x => e (by injection x with _ x; exact x.symm))).trans (h.pa j hj)
  · by_cases e : j = k
    · subst e; rw [up_same, up_same]; exact ha.far f h1.1
    · rw [up_other _ _ e, up_other _ _ e]; exact (h.acc j hj).far f (h.aa j hj).1
  · refine usl_blk (h.us j hj) fun g o n c i e hx => f.cells (h.lb j hj g o n c e hx).1 ?_
    have hu := h.us j hj
    rw [e] at hu
    exact usl_in hu hx
  · by_cases e : j = k
    · subst e; rw [up_same]; exact h0
    · rw [up_other _ _ e]; exact h.la j hj
  · by_cases e : j = k
    · subst e; rw [up_same]; exact h1
    · rw [up_other _ _ e]; exact h.aa j hj
  · by_cases e : i = k
    · subst e
      rw [up_same, up_other _ _ (fun x => hne x.symm)]
      exact Ne.symm (h2 j hj)
    · rw [up_other _ _ e]
      by_cases e2 : j = k
      · subst e2; rw [up_same]; exact h2 i hi
      · rw [up_other _ _ e2]; exact h.ad i j hi hj hne
  · obtain ⟨a, b, c'⟩ := h.lb j hj g o n c e hx
    refine ⟨a, b, fun i hi => ?_⟩
    by_cases e2 : i = k
    · subst e2; rw [up_same]; exact h3 j hj g o n c e hx
    · rw [up_other _ _ e2]; exact c' i hi
end
end Go.Proofs.YtmgpaheobhfioaaDoor
/- Appending to a list without room. -/
namespace Go.Proofs.YtmgpaheobhfioaaDoor
open Go.RowKit
set_option linter.unusedVariables false
set_option linter.unusedSimpArgs false

theorem row_new {w : World} {e : TypeId} {l : List Value} {cs : Array Value} (hcs : ∀ (j : Nat) (u : Value), l[j]? = some u → cs[j]? = some u) :
    Q w (w.drew.alloc (.cells cs e)) ∧ (∀ (j : Nat) (u : Value), l[j]? = some u → (w.drew.alloc (.cells cs e)).cell? ⟨w.heap.size, j, none⟩ = some u) := by
  have hb : (w.drew.alloc (.cells cs e)).heap[w.heap.size]? = some (.cells cs e (0, 0)) := heap_alloc_new w.drew _
  refine ⟨(Q.refl w).drew.cells _ _, fun j u hu => ?_⟩
  rw [cell_of_row _ _ j cs e (0, 0) hb]
  exact hcs j u hu
set_option maxRecDepth 100000 in
/-- Samples put behind a list that has no room. -/
theorem run_apF (w : World) (ty : TypeId) (aX : Option Addr) (nX : Nat) (X : List Nat) (hX : X.length = nX) (uX : USl w (.slice aX nX nX) X) (aS : Option Addr) (nS cS : Nat) (S : List Nat) (hS : S.length = nS) (uS : USl w (.slice aS nS cS) S) (hb : nX + nS ≤ 100000) (hz : aX = none → nX = 0) :
    ∃ la lc w', (Builtin.append_ #[29, 29] ty #[.slice aX nX nX, .slice aS nS cS]).run Tryd.prog w = .ok (.slice la (nX + nS) lc) w' ∧ Q w w' ∧ USl w' (.slice la (nX + nS) lc) (X ++ S) ∧ (∀ g o, la = some ⟨g, o, none⟩ → w.heap.size ≤ g ∨ (la = aX ∧ nS = 0)) ∧ nX + nS ≤ lc ∧ (la = none → nX + nS = 0 ∧ lc = 0) := by
  obtain ⟨iu, i1, i2, i3, i4⟩ := u32_info
  by_cases h0 : nS = 0
  · subst h0
    have hS0 : S = [] := List.eq_nil_of_length_eq_zero hS
    subst hS0
    refine ⟨aX, nX, w, ?_, Q.refl w, ?_, fun g o e => Or.inr ⟨rfl, rfl⟩, Nat.le_refl _, fun e => ⟨by rw [hz e], hz e⟩⟩
    · cases aX with
      | none =>
        rw [hz rfl]
        exact run_app_zeroU w 29 ty 36 iu Tryd.underlying29 i1 aS cS
      | some b => exact run_app_noneU w 29 ty 36 iu Tryd.underlying29 i1 aS cS b nX nX (Nat.le_refl _)
    · rw [List.append_nil]; exact uX
  · obtain ⟨g, o, c', e1, hcap, e3⟩ := uS.some (by omega)
    injection e1 with e1 _ e4
    subst e1 e4
    have hl : (newsU S).length = nS * iu.size := by rw [i2, Nat.mul_one]; simp [newsU, hS]
    have hnews : ∀ j u, (newsU S)[j]? = some u → w.cell? ((⟨g, o, none⟩ : Addr).add j) = some u := fun j u hu => by
      obtain ⟨hj, rfl⟩ := news_at hu
      rw [show (⟨g, o, none⟩ : Addr).add j = ⟨g, o + j, none⟩ by unfold Addr.add; split <;> simp_all]
      exact e3 j hj
    have fin : ∀ (k : Nat), Q w (w.drew.alloc (.cells ((newsU X).toArray ++ (newsU S).toArray ++ Builtin.zeroCells (Value.int IntKind.u32 0).cells k) 36)) ∧ USl (w.drew.alloc (.cells ((newsU X).toArray ++ (newsU S).toArray ++ Builtin.zeroCells (Value.int IntKind.u32 0).cells k) 36)) (.slice (some ⟨w.heap.size, 0, none⟩) (nX + nS) (nX + nS + k)) (X ++ S) := by
      intro k
      obtain ⟨q, hc⟩ := row_new (w := w) (e := 36) (l := newsU X ++ newsU S) (cs := (newsU X).toArray ++ (newsU S).toArray ++ Builtin.zeroCells (Value.int IntKind.u32 0).cells k) (fun j u hu => by
        have hj := (List.getElem?_eq_some_iff.1 hu).1
        rw [Array.getElem?_append_left (by simpa using hj)]
        simpa using hu)
      refine ⟨q, Or.inl ⟨w.heap.size, 0, _, by rw [List.length_append, hX, hS], by rw [List.length_append, hX, hS]; omega, fun i hi => ?_⟩⟩
      rw [Nat.zero_add]
      refine hc i _ ?_
      have hap : newsU X ++ newsU S = newsU (X ++ S) := by simp [newsU]
      rw [hap]
      unfold newsU
      rw [List.getElem?_map, List.getD_eq_getElem?_getD, List.getElem?_eq_getElem hi]; rfl
    cases aX with
    | none =>
      obtain rfl := hz rfl
      have hX0 : X = [] := List.eq_nil_of_length_eq_zero hX
      subst hX0
      have hr := run_append_nil (P := Tryd.prog) w 29 ty 36 iu _ Tryd.underlying29 i1 i4 ⟨g, o, none⟩ nS cS (newsU S) hl hnews (by omega) (by omega) (by rw [i3]; omega)
      obtain ⟨q, hu⟩ := fin (grownCap w nS 0 36 - nS)
      have hge := grownCap_ge w nS 0 36
      rw [show (newsU ([] : List Nat)).toArray = #[] from rfl, Array.empty_append] at q hu
      rw [Nat.zero_add, show nS + (grownCap w nS 0 36 - nS) = grownCap w nS 0 36 by omega] at hu
      rw [Nat.zero_add]
      exact ⟨_, _, _, hr, q, hu, fun g o e => Or.inl (by injection e with e; injection e with e; omega), hge, fun e => by cases e⟩
    | some b =>
      have holds : ∀ j u, (newsU X)[j]? = some u → w.cell? (b.add j) = some u := fun j u hu => by
        obtain ⟨hj, rfl⟩ := news_at hu
        obtain ⟨g2, o2, c2, ev, _, hI⟩ := uX.some (by omega)
        injection ev with ev _ _
        injection ev with ev
        subst ev
        rw [show (⟨g2, o2, none⟩ : Addr).add j = ⟨g2, o2 + j, none⟩ by unfold Addr.add; split <;> simp_all]
        exact hI j hj
      have hr := run_append_grow (P := Tryd.prog) w 29 ty 36 iu _ Tryd.underlying29 i1 i4 b nX nX (newsU X) (by rw [i2, Nat.mul_one]; simp [newsU, hX]) holds ⟨g, o, none⟩ nS cS (newsU S) hl hnews (by omega) (by omega) (growslice_fits (by omega) (by rw [i3]; omega))
      obtain ⟨q, hu⟩ := fin (grownCap w (nX + nS) nX 36 - (nX + nS))
      have hge := grownCap_ge w (nX + nS) nX 36
      rw [show nX + nS + (grownCap w (nX + nS) nX 36 - (nX + nS)) = grownCap w (nX + nS) nX 36 by omega] at hu
      exact ⟨_, _, _, hr, q, hu, fun g o e => Or.inl (by injection e with e; injection e with e; omega), hge, fun e => by cases e⟩
end Go.Proofs.YtmgpaheobhfioaaDoor
