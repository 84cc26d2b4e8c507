/- The document's exact sums: what they tell. -/
import Derived.Test.YtieojgblamkgoaaGreatDoorGc72c0315
namespace Go.Proofs.YtieojgblamkgoaaGreatDoor
open Go.RowKit
set_option linter.unusedVariables false
set_option linter.unusedSimpArgs false

/-- What is told of a sum that isn't finite. -/
def spcV (m : Nat) : Nat := if m < 4 then 0 else if m < 8 then 2139095040 else if m < 12 then 4286578688 else 2143289344
theorem fl_cases : ∀ m, m < 32 → (m < 4 → fl6 m = false ∧ fl7 m = false ∧ fl8 m = false) ∧ (4 ≤ m → m < 8 → fl6 m = false ∧ fl7 m = true ∧ fl8 m = false) ∧ (8 ≤ m → m < 12 → fl6 m = false ∧ fl7 m = false ∧ fl8 m = true) ∧ (12 ≤ m → m < 16 → fl6 m = false ∧ fl7 m = true ∧ fl8 m = true) ∧ (16 ≤ m → fl6 m = true) := fun m hm =>
  ⟨fun h => ⟨decide_eq_false (by omega), decide_eq_false (by omega), decide_eq_false (by omega)⟩, fun h h' => ⟨decide_eq_false (by omega), decide_eq_true (by omega), decide_eq_false (by omega)⟩, fun h h' => ⟨decide_eq_false (by omega), decide_eq_false (by omega), decide_eq_true (by omega)⟩, fun h h' => ⟨decide_eq_false (by omega), decide_eq_true (by omega), decide_eq_true (by omega)⟩, fun h => decide_eq_true h⟩
set_option maxHeartbeats 1000000 in
theorem special_any (l : List Nat) (B : Nat) (w : World) (hS : SAt w B l) : Calls Tryz.prog 97 #[.pointer (some ⟨B, 0, none⟩)] w fun e w' => e = .returned (.tuple #[.int .u32 (spcV (metV l) : Nat), .bool (decide (4 ≤ metV l))]) ∧ w' = w := by
  obtain ⟨k, s, p, L, C, e, m, h1, h2⟩ := hS
  have d6 := h1.c6
  have d7 := h1.c7
  have d8 := h1.c8
  obtain ⟨f1, f2, f3, f4, f5⟩ := fl_cases _ (metV_lt l)
  clear h1 h2
  generalize metV l = t at *
  by_cases c1 : t < 4
  · obtain ⟨g1, g2, g3⟩ := f1 c1
    rw [g1] at d6
    rw [g2] at d7
    rw [g3] at d8
    rw [decide_eq_false (by omega), show spcV t = 0 from if_pos c1]
    clear f1 f2 f3 f4 f5 g1 g2 g3 c1
    go_enter Tryz.func97, Tryz.ntmps97
    go_wp2_with fail
    go_ret2
    exact ⟨rfl, rfl⟩
  · rw [decide_eq_true (by omega)]
    by_cases c2 : t < 8
    · obtain ⟨g1, g2, g3⟩ := f2 (by omega) c2
      rw [g1] at d6
      rw [g2] at d7
      rw [g3] at d8
      rw [show spcV t = 2139095040 by unfold spcV; rw [if_neg c1, if_pos c2]]
      clear f1 f2 f3 f4 f5 g1 g2 g3 c1 c2
      go_enter Tryz.func97, Tryz.ntmps97
      go_wp2_with fail
      go_ret2
      exact ⟨rfl, rfl⟩
    · by_cases c3 : t < 12
      · obtain ⟨g1, g2, g3⟩ := f3 (by omega) c3
        rw [g1] at d6
        rw [g2] at d7
        rw [g3] at d8
        rw [show spcV t = 4286578688 by unfold spcV; rw [if_neg c1, if_neg c2, if_pos c3]]
        clear f1 f2 f3 f4 f5 g1 g2 g3 c1 c2 c3
        go_enter Tryz.func97, Tryz.ntmps97
        go_wp2_with fail
        go_ret2
        exact ⟨rfl, rfl⟩
      · rw [show spcV t = 2143289344 by unfold spcV; rw [if_neg c1, if_neg c2, if_neg c3]]
        by_cases c4 : t < 16
        · obtain ⟨g1, g2, g3⟩ := f4 (by omega) c4
          rw [g1] at d6
          rw [g2] at d7
          rw [g3] at d8
          clear f1 f2 f3 f4 f5 g1 g2 g3 c1 c2 c3 c4
          go_enter Tryz.func97, Tryz.ntmps97
          go_wp2_with fail
          go_ret2
          exact ⟨rfl, rfl⟩
        · have g1 := f5 (by omega)
          rw [g1] at d6
          clear f1 f2 f3 f4 f5 g1 c1 c2 c3 c4 d7 d8
          go_enter Tryz.func97, Tryz.ntmps97
          go_wp2_with fail
          go_ret2
          exact ⟨rfl, rfl⟩
theorem kind_pos (s : Nat) : 1 ≤ kindV s := by
  unfold kindV
  split
  · decide
  · split
    · decide
    · split
      · decide
      · split <;> decide
theorem metV_pos {l : List Nat} (h : l ≠ []) : 1 ≤ metV l := by
  rw [← List.dropLast_concat_getLast h, metV_snoc]
  exact Nat.le_trans (kind_pos _) Nat.right_le_or
theorem sumV_spc {l : List Nat} (h : ¬ metV l < 4) (d : Nat) : sumV l d = spcV (metV l) := by
  unfold sumV spcV
  rw [if_neg h, if_neg h]
  split
  · rfl
  · split
    · rw [if_pos (by omega)]
    · rw [if_neg (by omega)]
theorem sumV_fin {l : List Nat} (h : metV l < 4) (d : Nat) : sumV l d = if sumZ l ≠ 0 then exV (sumZ l) d else if metV l = 1 then 2147483648 else 0 := if_pos h
set_option maxHeartbeats 4000000 in
theorem told_any (l : List Nat) (B : Nat) (w : World) (hS : SAt w B l) (hz : 2 * (sumZ l).natAbs < m64 ^ 5) (hn : l.length ≤ 1000000) : Calls Tryz.prog 95 #[.pointer (some ⟨B, 0, none⟩)] w fun e w' => e = .returned (.int .u32 (sumV l 1 : Nat)) ∧ Q w w' := by
  have HP : Hid _ := special_any l B w hS
  obtain ⟨k, s, p, L, C, e, m, h1, h2⟩ := hS
  have d5 := h1.n
  have d9 := h1.c9
  have c0 := h1.b.c0
  have c1 := h1.b.c1
  have c2 := h1.b.c2
  have c3 := h1.b.c3
  have c4 := h1.b.c4
  by_cases hm : metV l < 4
  · have HV : Hid _ := sumV_fin hm 1
    rw [decide_eq_false (show ¬ 4 ≤ metV l by omega), show spcV (metV l) = 0 from if_pos hm] at HP
    by_cases h0 : l = []
    · have hb0 : ((l.length : Int) == 0) = true := by rw [h0]; rfl
      have HR : Hid (sumV l 1 = 0) := by show sumV l 1 = 0; rw [h0]; decide +kernel
      clear h1 h2 hm HV h0 hz
      go_enter Tryz.func95, Tryz.ntmps95
      go_wp2_with fail
      refine Calls.mono HP.out ?_
      rintro e1 w1 ⟨rfl, rfl⟩
      go_wp2_with fail
      go_ret
      exact ⟨by rw [HR.out]; rfl, Q.refl _⟩
    · have hb0 : ((l.length : Int) == 0) = false := by
        rw [beq_eq_false_iff_ne]
        have : l.length ≠ 0 := fun g => h0 (List.eq_nil_of_length_eq_zero g)
        omega
      obtain ⟨n, hn1, hv1⟩ := h2 h0
      have HN : Hid (NumAt w (num5 k s p L C e m) (.fin s n e false)) := hn1
      have hpos := metV_pos h0
      by_cases hz0 : sumZ l = 0
      · have hn0 : n = 0 := hv1.zero.2 hz0
        by_cases hp : metV l = 1
        · have HR : Hid (sumV l 1 = 2147483648) := by show sumV l 1 = _; rw [HV.out, if_neg (fun h => h hz0), if_pos hp]
          have e9 : fl9 (metV l) = false := by rw [hp]; decide
          rw [e9] at d9
          clear h1 h2 hm HV h0 hz hn1 hv1 hpos hz0 hp e9
          go_enter Tryz.func95, Tryz.ntmps95
          go_wp2_with fail
          refine Calls.mono HP.out ?_
          rintro e1 w1 ⟨rfl, rfl⟩
          go_wp2_with fail
          refine (zero_q _ _ _ HN.out).mono ?_
          rintro e1 w2 ⟨rfl, q2⟩
          rw [zeroB_fin, decide_eq_true hn0]
          have f9 := q2.cell d9
          go_wp2_with fail
          go_ret
          exact ⟨by rw [HR.out]; rfl, q2⟩
        · have HR : Hid (sumV l 1 = 0) := by show sumV l 1 = _; rw [HV.out, if_neg (fun h => h hz0), if_neg hp]
          have e9 : fl9 (metV l) = true := by unfold fl9; exact decide_eq_true (by omega)
          rw [e9] at d9
          clear h1 h2 hm HV h0 hz hn1 hv1 hpos hz0 hp e9
          go_enter Tryz.func95, Tryz.ntmps95
          go_wp2_with fail
          refine Calls.mono HP.out ?_
          rintro e1 w1 ⟨rfl, rfl⟩
          go_wp2_with fail
          refine (zero_q _ _ _ HN.out).mono ?_
          rintro e1 w2 ⟨rfl, q2⟩
          rw [zeroB_fin, decide_eq_true hn0]
          have f9 := q2.cell d9
          go_wp2_with fail
          go_ret
          exact ⟨by rw [HR.out]; rfl, q2⟩
      · have hn0 : n ≠ 0 := fun g => hz0 (hv1.zero.1 g)
        have HR : Hid (sumV l 1 = roundR (.fin s n e false)) := by show sumV l 1 = _; rw [HV.out, if_pos hz0, hv1.told hz0]
        have HF : Hid (fits (.fin s n e false)) := by
          have h3 := hv1.small hz
          obtain ⟨h4, h5, h6⟩ := h3
          exact ⟨by omega, by omega, by omega, fun h => by cases h⟩
        have hlt : roundR (.fin s n e false) < 4294967296 := roundR_lt _
        clear h1 h2 hm HV h0 hz hn1 hv1 hpos hz0
        go_enter Tryz.func95, Tryz.ntmps95
        go_wp2_with fail
        refine Calls.mono HP.out ?_
        rintro e1 w1 ⟨rfl, rfl⟩
        go_wp2_with fail
        refine (zero_q _ _ _ HN.out).mono ?_
        rintro e1 w2 ⟨rfl, q2⟩
        rw [zeroB_fin, decide_eq_false hn0]
        have i0 := q2.cell c0
        have i1 := q2.cell c1
        have i2 := q2.cell c2
        have i3 := q2.cell c3
        have i4 := q2.cell c4
        have HQ2 : Hid (Q w1 w2) := q2
        have SF : Hid (∀ n : QW w2, Calls Tryz.prog 100 #[] n.x fun e w' => e = .returned (.agg #[.int .i64 23, .int .i64 8]) ∧ Q n.x w') := fun n => f32_any n.x
        have SR : Hid (∀ u : QW w2, Calls Tryz.prog 101 #[.agg #[.int .i64 23, .int .i64 8], .agg #[.int .i64 k, .bool s, .slice p L C, .int .i64 e, .bool m]] u.x fun e1 w' => e1 = .returned (.int .u64 (roundR (.fin s n e false) : Int)) ∧ Q u.x w') := fun u => round32_any _ _ u.x (u.q.num (HQ2.out.num HN.out)) HF.out
        generalize roundR (.fin s n e false) = V at *
        have ew : IntKind.u32.wrap (V : Int) = (V : Int) := by rw [IntKind.wrap_u32]; omega
        clear q2 c0 c1 c2 c3 c4
        have j0 := qw_cell i0
        have j1 := qw_cell i1
        have j2 := qw_cell i2
        have j3 := qw_cell i3
        have j4 := qw_cell i4
        have n0 := qw_some w2
        go_wp2_with fail
        refine wp_region_quiet_Q (by kernel_rfl) (by kernel_rfl) ?_
        repeat (first | go_big_quiet_step (first | (go_at_call 100; exact calls_qw (SF.out _)) | (go_at_call 101; exact calls_qw (SR.out _))) | quiet_step (first | (go_at_call 100; exact calls_qw (SF.out _)) | (go_at_call 101; exact calls_qw (SR.out _))))
        refine wpQuiet_nil ?_
        intro w4 hw'
        have hq4 := qw_out hw'
        clear hw' n0 j0 j1 j2 j3 j4
        go_wp2_with fail
        go_ret
        exact ⟨by rw [HR.out]; rfl, HQ2.out.trans hq4⟩
  · have HR : Hid (sumV l 1 = spcV (metV l)) := sumV_spc hm 1
    rw [decide_eq_true (show 4 ≤ metV l by omega)] at HP
    generalize spcV (metV l) = V at *
    clear h1 h2 hm hz
    go_enter Tryz.func95, Tryz.ntmps95
    go_wp2_with fail
    refine Calls.mono HP.out ?_
    rintro e1 w1 ⟨rfl, rfl⟩
    go_wp2_with fail
    go_ret
    exact ⟨by rw [HR.out]; rfl, Q.refl _⟩
end Go.Proofs.YtieojgblamkgoaaGreatDoor
/- The document's exact sums: one sample more, no number. -/
namespace Go.Proofs.YtieojgblamkgoaaGreatDoor
open Go.RowKit
set_option linter.unusedVariables false
set_option linter.unusedSimpArgs false

set_option maxHeartbeats 4000000 in
set_option maxRecDepth 100000 in
theorem splus_nan0 (l : List Nat) (a B : Nat) (w : World) (ha : a < 4294967296) (hS : SAt w B l) (h0 : l = []) (hn : l.length ≤ 35184372087808) (hk : numOf Ieee.single a = .nan) (hne : a ≠ 2147483648) (hsz : sumZ (l ++ [a]) = sumZ l) (E6 : fl6 (metV (l ++ [a])) = (fl6 (metV l) || true)) (E7 : fl7 (metV (l ++ [a])) = (fl7 (metV l) || false)) (E8 : fl8 (metV (l ++ [a])) = (fl8 (metV l) || false)) (E9 : fl9 (metV (l ++ [a])) = (fl9 (metV l) || true)) :
    Calls Tryz.prog 96 #[.pointer (some ⟨B, 0, none⟩), .int .u32 (a : Int)] w fun e' w' => e' = .returned (.tuple #[]) ∧ SAt w' B (l ++ [a]) ∧ Fb B w w' := by
  obtain ⟨k, s, p, L, C, e, m, hS1, hS2⟩ := hS
  have HS : Hid (SFl w B l k s p L C e m) := hS1
  have HK : Hid (numOf Ieee.single a = .nan) := hk
  have HE6 : Hid _ := E6
  have HE7 : Hid _ := E7
  have HE8 : Hid _ := E8
  have HE9 : Hid _ := E9
  have ew : IntKind.u64.wrap (a : Int) = (a : Int) := by rw [IntKind.wrap_u64]; omega
  have HLN : Hid (((l.length : Int) + 1) = ((l ++ [a]).length : Nat)) := by show ((l.length : Int) + 1) = _; rw [List.length_append, List.length_singleton]; omega
  have hb9 : ((a : Int) != 2147483648) = true := by rw [bne_iff_ne]; omega
  have hb0 : ((l.length : Int) == 0) = true := by rw [h0]; rfl
  have HZ0 : Hid (sumZ l = 0) := by show sumZ l = 0; rw [h0]; rfl
  have hm6 : fl6 (metV l) = false := by rw [h0]; decide
  have hm7 : fl7 (metV l) = false := by rw [h0]; decide
  have hm8 : fl8 (metV l) = false := by rw [h0]; decide
  have hm9 : fl9 (metV l) = false := by rw [h0]; decide
  have HSZ : Hid (sumZ (l ++ [a]) = sumZ l) := hsz
  clear hsz
  clear hS1 hS2 hk h0 E6 E7 E8 E9 hne
  go_enter Tryz.func96, Tryz.ntmps96
  go_wp2_with fail
  refine (f32_any _).mono ?_
  rintro e1 w1 ⟨rfl, q1⟩
  go_wp2_with fail
  refine (of32_any a _ ha).mono ?_
  rintro e1 w2 ⟨v, rfl, hv, q2⟩
  rw [HK.out] at hv
  obtain ⟨b', e', m', rfl⟩ := hv
  have q3 : Q w2 (w2.alloc (Obj.cells #[.int .i64 0, .bool b', .slice none 0 0, .int .i64 e', .bool m'] 138)) := (Q.refl w2).cells _ _
  have HS2 : Hid (SFl _ B l k s p L C e m) := HS.out.next ((q1.trans q2).trans q3)
  have HQ2 : Hid (Q w _) := (q1.trans q2).trans q3
  have HXb : Hid (Box5 (w2.alloc (Obj.cells #[.int .i64 0, .bool b', .slice none 0 0, .int .i64 e', .bool m'] 138)) w2.heap.size 0 b' none 0 0 e' m') := ⟨by simp [go_sem], by simp [go_sem], by simp [go_sem], by simp [go_sem], by simp [go_sem]⟩
  have HBX : Hid (w2.heap.size ≠ B) := by
    have h1 := HS.out.h
    have h2 := (q1.trans q2).1.size
    show w2.heap.size ≠ B
    omega
  have hBX : ¬ B = w2.heap.size := fun e => HBX.out e.symm
  have d5 := HS2.out.n
  have d6 := HS2.out.c6
  have d7 := HS2.out.c7
  have d8 := HS2.out.c8
  have d9 := HS2.out.c9
  have z := HS2.out.z
  have g0 := HS2.out.b.c0
  have g1 := HS2.out.b.c1
  have g2 := HS2.out.b.c2
  have g3 := HS2.out.b.c3
  have g4 := HS2.out.b.c4
  clear q1 q2 HS q3
  have x0 := HXb.out.c0
  have x1 := HXb.out.c1
  have x2 := HXb.out.c2
  have x3 := HXb.out.c3
  have x4 := HXb.out.c4
  have zX : ∀ j, (w2.alloc (Obj.cells #[.int .i64 0, .bool b', .slice none 0 0, .int .i64 e', .bool m'] 138)).frozen? ⟨w2.heap.size, j, none⟩ = false := fun j => by simp [go_sem]
  obtain ⟨y, hy⟩ : ∃ y, (w2.alloc (Obj.cells #[.int .i64 0, .bool b', .slice none 0 0, .int .i64 e', .bool m'] 138)) = y := ⟨_, rfl⟩
  rw [hy] at zX HS2 HQ2 HXb d5 d6 d7 d8 d9 z x0 x1 x2 x3 x4 g0 g1 g2 g3 g4
  rw [hm6] at d6 HE6
  rw [hm7] at d7 HE7
  rw [hm8] at d8 HE8
  rw [hm9] at d9 HE9
  clear hm6 hm7 hm8 hm9
  (go_wp2_with fail; exact bodyPost_end (results_none Tryz.results96 _ _ _) rfl ⟨rfl, ⟨_, _, _, _, _, _, _, ((HS2.out.over 2 false none 0 0 0 false).put (l' := l ++ [a]) HLN.out HE6.out.symm HE7.out.symm HE8.out.symm HE9.out.symm), fun _ => (SNm.put (SNm.over HS2.out.b ⟨0, num_start _, by rw [HZ0.out]; exact Val.start⟩) (put0_box HS2.out.b).c0 HSZ.out)⟩, (((HQ2.out.fb B).trans put0_fb).trans putS_fb)⟩)
set_option maxHeartbeats 4000000 in
set_option maxRecDepth 100000 in
theorem splus_nan (l : List Nat) (a B : Nat) (w : World) (ha : a < 4294967296) (hS : SAt w B l) (h0 : l ≠ []) (hn : l.length ≤ 35184372087808) (hk : numOf Ieee.single a = .nan) (hne : a ≠ 2147483648) (hsz : sumZ (l ++ [a]) = sumZ l) (E6 : fl6 (metV (l ++ [a])) = (fl6 (metV l) || true)) (E7 : fl7 (metV (l ++ [a])) = (fl7 (metV l) || false)) (E8 : fl8 (metV (l ++ [a])) = (fl8 (metV l) || false)) (E9 : fl9 (metV (l ++ [a])) = (fl9 (metV l) || true)) :
    Calls Tryz.prog 96 #[.pointer (some ⟨B, 0, none⟩), .int .u32 (a : Int)] w fun e' w' => e' = .returned (.tuple #[]) ∧ SAt w' B (l ++ [a]) ∧ Fb B w w' := by
  obtain ⟨k, s, p, L, C, e, m, hS1, hS2⟩ := hS
  have HS : Hid (SFl w B l k s p L C e m) := hS1
  have HK : Hid (numOf Ieee.single a = .nan) := hk
  have HE6 : Hid _ := E6
  have HE7 : Hid _ := E7
  have HE8 : Hid _ := E8
  have HE9 : Hid _ := E9
  have ew : IntKind.u64.wrap (a : Int) = (a : Int) := by rw [IntKind.wrap_u64]; omega
  have HLN : Hid (((l.length : Int) + 1) = ((l ++ [a]).length : Nat)) := by show ((l.length : Int) + 1) = _; rw [List.length_append, List.length_singleton]; omega
  have hb9 : ((a : Int) != 2147483648) = true := by rw [bne_iff_ne]; omega
  have HN : Hid (SNm w l k s p L C e m) := hS2 h0
  have hb0 : ((l.length : Int) == 0) = false := by
    rw [beq_eq_false_iff_ne]
    have : l.length ≠ 0 := fun g => h0 (List.eq_nil_of_length_eq_zero g)
    omega
  have HSZ : Hid (sumZ (l ++ [a]) = sumZ l) := hsz
  clear hsz
  clear hS1 hS2 hk h0 E6 E7 E8 E9 hne
  go_enter Tryz.func96, Tryz.ntmps96
  go_wp2_with fail
  refine (f32_any _).mono ?_
  rintro e1 w1 ⟨rfl, q1⟩
  go_wp2_with fail
  refine (of32_any a _ ha).mono ?_
  rintro e1 w2 ⟨v, rfl, hv, q2⟩
  rw [HK.out] at hv
  obtain ⟨b', e', m', rfl⟩ := hv
  have q3 : Q w2 (w2.alloc (Obj.cells #[.int .i64 0, .bool b', .slice none 0 0, .int .i64 e', .bool m'] 138)) := (Q.refl w2).cells _ _
  have HS2 : Hid (SFl _ B l k s p L C e m) := HS.out.next ((q1.trans q2).trans q3)
  have HQ2 : Hid (Q w _) := (q1.trans q2).trans q3
  have HN2 : Hid (SNm _ l k s p L C e m) := HN.out.next ((q1.trans q2).trans q3)
  have HXb : Hid (Box5 (w2.alloc (Obj.cells #[.int .i64 0, .bool b', .slice none 0 0, .int .i64 e', .bool m'] 138)) w2.heap.size 0 b' none 0 0 e' m') := ⟨by simp [go_sem], by simp [go_sem], by simp [go_sem], by simp [go_sem], by simp [go_sem]⟩
  have HBX : Hid (w2.heap.size ≠ B) := by
    have h1 := HS.out.h
    have h2 := (q1.trans q2).1.size
    show w2.heap.size ≠ B
    omega
  have hBX : ¬ B = w2.heap.size := fun e => HBX.out e.symm
  have d5 := HS2.out.n
  have d6 := HS2.out.c6
  have d7 := HS2.out.c7
  have d8 := HS2.out.c8
  have d9 := HS2.out.c9
  have z := HS2.out.z
  clear q1 q2 HS q3 HN
  have x0 := HXb.out.c0
  have x1 := HXb.out.c1
  have x2 := HXb.out.c2
  have x3 := HXb.out.c3
  have x4 := HXb.out.c4
  have zX : ∀ j, (w2.alloc (Obj.cells #[.int .i64 0, .bool b', .slice none 0 0, .int .i64 e', .bool m'] 138)).frozen? ⟨w2.heap.size, j, none⟩ = false := fun j => by simp [go_sem]
  obtain ⟨y, hy⟩ : ∃ y, (w2.alloc (Obj.cells #[.int .i64 0, .bool b', .slice none 0 0, .int .i64 e', .bool m'] 138)) = y := ⟨_, rfl⟩
  rw [hy] at zX HS2 HQ2 HXb d5 d6 d7 d8 d9 z x0 x1 x2 x3 x4 HN2
  generalize fl6 (metV l) = b6 at *
  generalize fl7 (metV l) = b7 at *
  generalize fl8 (metV l) = b8 at *
  generalize fl9 (metV l) = b9 at *
  cases b6 <;> cases b7 <;> cases b8 <;> cases b9
  all_goals (go_wp2_with fail; exact bodyPost_end (results_none Tryz.results96 _ _ _) rfl ⟨rfl, ⟨_, _, _, _, _, _, _, (HS2.out.put (l' := l ++ [a]) HLN.out HE6.out.symm HE7.out.symm HE8.out.symm HE9.out.symm), fun _ => (HN2.out.put HS2.out.b.c0 HSZ.out)⟩, ((HQ2.out.fb B).trans putS_fb)⟩)
set_option maxHeartbeats 4000000 in
set_option maxRecDepth 100000 in
theorem splus_pinf0 (l : List Nat) (a B : Nat) (w : World) (ha : a < 4294967296) (hS : SAt w B l) (h0 : l = []) (hn : l.length ≤ 35184372087808) (hk : numOf Ieee.single a = .inf false) (hne : a ≠ 2147483648) (hsz : sumZ (l ++ [a]) = sumZ l) (E6 : fl6 (metV (l ++ [a])) = (fl6 (metV l) || false)) (E7 : fl7 (metV (l ++ [a])) = (fl7 (metV l) || true)) (E8 : fl8 (metV (l ++ [a])) = (fl8 (metV l) || false)) (E9 : fl9 (metV (l ++ [a])) = (fl9 (metV l) || true)) :
    Calls Tryz.prog 96 #[.pointer (some ⟨B, 0, none⟩), .int .u32 (a : Int)] w fun e' w' => e' = .returned (.tuple #[]) ∧ SAt w' B (l ++ [a]) ∧ Fb B w w' := by
  obtain ⟨k, s, p, L, C, e, m, hS1, hS2⟩ := hS
  have HS : Hid (SFl w B l k s p L C e m) := hS1
  have HK : Hid (numOf Ieee.single a = .inf false) := hk
  have HE6 : Hid _ := E6
  have HE7 : Hid _ := E7
  have HE8 : Hid _ := E8
  have HE9 : Hid _ := E9
  have ew : IntKind.u64.wrap (a : Int) = (a : Int) := by rw [IntKind.wrap_u64]; omega
  have HLN : Hid (((l.length : Int) + 1) = ((l ++ [a]).length : Nat)) := by show ((l.length : Int) + 1) = _; rw [List.length_append, List.length_singleton]; omega
  have hb9 : ((a : Int) != 2147483648) = true := by rw [bne_iff_ne]; omega
  have hb0 : ((l.length : Int) == 0) = true := by rw [h0]; rfl
  have HZ0 : Hid (sumZ l = 0) := by show sumZ l = 0; rw [h0]; rfl
  have hm6 : fl6 (metV l) = false := by rw [h0]; decide
  have hm7 : fl7 (metV l) = false := by rw [h0]; decide
  have hm8 : fl8 (metV l) = false := by rw [h0]; decide
  have hm9 : fl9 (metV l) = false := by rw [h0]; decide
  have HSZ : Hid (sumZ (l ++ [a]) = sumZ l) := hsz
  clear hsz
  clear hS1 hS2 hk h0 E6 E7 E8 E9 hne
  go_enter Tryz.func96, Tryz.ntmps96
  go_wp2_with fail
  refine (f32_any _).mono ?_
  rintro e1 w1 ⟨rfl, q1⟩
  go_wp2_with fail
  refine (of32_any a _ ha).mono ?_
  rintro e1 w2 ⟨v, rfl, hv, q2⟩
  rw [HK.out] at hv
  obtain ⟨e', m', rfl⟩ := hv
  have q3 : Q w2 (w2.alloc (Obj.cells #[.int .i64 1, .bool false, .slice none 0 0, .int .i64 e', .bool m'] 138)) := (Q.refl w2).cells _ _
  have HS2 : Hid (SFl _ B l k s p L C e m) := HS.out.next ((q1.trans q2).trans q3)
  have HQ2 : Hid (Q w _) := (q1.trans q2).trans q3
  have HXb : Hid (Box5 (w2.alloc (Obj.cells #[.int .i64 1, .bool false, .slice none 0 0, .int .i64 e', .bool m'] 138)) w2.heap.size 1 false none 0 0 e' m') := ⟨by simp [go_sem], by simp [go_sem], by simp [go_sem], by simp [go_sem], by simp [go_sem]⟩
  have HBX : Hid (w2.heap.size ≠ B) := by
    have h1 := HS.out.h
    have h2 := (q1.trans q2).1.size
    show w2.heap.size ≠ B
    omega
  have hBX : ¬ B = w2.heap.size := fun e => HBX.out e.symm
  have d5 := HS2.out.n
  have d6 := HS2.out.c6
  have d7 := HS2.out.c7
  have d8 := HS2.out.c8
  have d9 := HS2.out.c9
  have z := HS2.out.z
  have g0 := HS2.out.b.c0
  have g1 := HS2.out.b.c1
  have g2 := HS2.out.b.c2
  have g3 := HS2.out.b.c3
  have g4 := HS2.out.b.c4
  clear q1 q2 HS q3
  have x0 := HXb.out.c0
  have x1 := HXb.out.c1
  have x2 := HXb.out.c2
  have x3 := HXb.out.c3
  have x4 := HXb.out.c4
  have zX : ∀ j, (w2.alloc (Obj.cells #[.int .i64 1, .bool false, .slice none 0 0, .int .i64 e', .bool m'] 138)).frozen? ⟨w2.heap.size, j, none⟩ = false := fun j => by simp [go_sem]
  obtain ⟨y, hy⟩ : ∃ y, (w2.alloc (Obj.cells #[.int .i64 1, .bool false, .slice none 0 0, .int .i64 e', .bool m'] 138)) = y := ⟨_, rfl⟩
  rw [hy] at zX HS2 HQ2 HXb d5 d6 d7 d8 d9 z x0 x1 x2 x3 x4 g0 g1 g2 g3 g4
  rw [hm6] at d6 HE6
  rw [hm7] at d7 HE7
  rw [hm8] at d8 HE8
  rw [hm9] at d9 HE9
  clear hm6 hm7 hm8 hm9
  (go_wp2_with fail; exact bodyPost_end (results_none Tryz.results96 _ _ _) rfl ⟨rfl, ⟨_, _, _, _, _, _, _, ((HS2.out.over 2 false none 0 0 0 false).put (l' := l ++ [a]) HLN.out HE6.out.symm HE7.out.symm HE8.out.symm HE9.out.symm), fun _ => (SNm.put (SNm.over HS2.out.b ⟨0, num_start _, by rw [HZ0.out]; exact Val.start⟩) (put0_box HS2.out.b).c0 HSZ.out)⟩, (((HQ2.out.fb B).trans put0_fb).trans putS_fb)⟩)
set_option maxHeartbeats 4000000 in
set_option maxRecDepth 100000 in
theorem splus_pinf (l : List Nat) (a B : Nat) (w : World) (ha : a < 4294967296) (hS : SAt w B l) (h0 : l ≠ []) (hn : l.length ≤ 35184372087808) (hk : numOf Ieee.single a = .inf false) (hne : a ≠ 2147483648) (hsz : sumZ (l ++ [a]) = sumZ l) (E6 : fl6 (metV (l ++ [a])) = (fl6 (metV l) || false)) (E7 : fl7 (metV (l ++ [a])) = (fl7 (metV l) || true)) (E8 : fl8 (metV (l ++ [a])) = (fl8 (metV l) || false)) (E9 : fl9 (metV (l ++ [a])) = (fl9 (metV l) || true)) :
    Calls Tryz.prog 96 #[.pointer (some ⟨B, 0, none⟩), .int .u32 (a : Int)] w fun e' w' => e' = .returned (.tuple #[]) ∧ SAt w' B (l ++ [a]) ∧ Fb B w w' := by
  obtain ⟨k, s, p, L, C, e, m, hS1, hS2⟩ := hS
  have HS : Hid (SFl w B l k s p L C e m) := hS1
  have HK : Hid (numOf Ieee.single a = .inf false) := hk
  have HE6 : Hid _ := E6
  have HE7 : Hid _ := E7
  have HE8 : Hid _ := E8
  have HE9 : Hid _ := E9
  have ew : IntKind.u64.wrap (a : Int) = (a : Int) := by rw [IntKind.wrap_u64]; omega
  have HLN : Hid (((l.length : Int) + 1) = ((l ++ [a]).length : Nat)) := by show ((l.length : Int) + 1) = _; rw [List.length_append, List.length_singleton]; omega
  have hb9 : ((a : Int) != 2147483648) = true := by rw [bne_iff_ne]; omega
  have HN : Hid (SNm w l k s p L C e m) := hS2 h0
  have hb0 : ((l.length : Int) == 0) = false := by
    rw [beq_eq_false_iff_ne]
    have : l.length ≠ 0 := fun g => h0 (List.eq_nil_of_length_eq_zero g)
    omega
  have HSZ : Hid (sumZ (l ++ [a]) = sumZ l) := hsz
  clear hsz
  clear hS1 hS2 hk h0 E6 E7 E8 E9 hne
  go_enter Tryz.func96, Tryz.ntmps96
  go_wp2_with fail
  refine (f32_any _).mono ?_
  rintro e1 w1 ⟨rfl, q1⟩
  go_wp2_with fail
  refine (of32_any a _ ha).mono ?_
  rintro e1 w2 ⟨v, rfl, hv, q2⟩
  rw [HK.out] at hv
  obtain ⟨e', m', rfl⟩ := hv
  have q3 : Q w2 (w2.alloc (Obj.cells #[.int .i64 1, .bool false, .slice none 0 0, .int .i64 e', .bool m'] 138)) := (Q.refl w2).cells _ _
  have HS2 : Hid (SFl _ B l k s p L C e m) := HS.out.next ((q1.trans q2).trans q3)
  have HQ2 : Hid (Q w _) := (q1.trans q2).trans q3
  have HN2 : Hid (SNm _ l k s p L C e m) := HN.out.next ((q1.trans q2).trans q3)
  have HXb : Hid (Box5 (w2.alloc (Obj.cells #[.int .i64 1, .bool false, .slice none 0 0, .int .i64 e', .bool m'] 138)) w2.heap.size 1 false none 0 0 e' m') := ⟨by simp [go_sem], by simp [go_sem], by simp [go_sem], by simp [go_sem], by simp [go_sem]⟩
  have HBX : Hid (w2.heap.size ≠ B) := by
    have h1 := HS.out.h
    have h2 := (q1.trans q2).1.size
    show w2.heap.size ≠ B
    omega
  have hBX : ¬ B = w2.heap.size := fun e => HBX.out e.symm
  have d5 := HS2.out.n
  have d6 := HS2.out.c6
  have d7 := HS2.out.c7
  have d8 := HS2.out.c8
  have d9 := HS2.out.c9
  have z := HS2.out.z
  clear q1 q2 HS q3 HN
  have x0 := HXb.out.c0
  have x1 := HXb.out.c1
  have x2 := HXb.out.c2
  have x3 := HXb.out.c3
  have x4 := HXb.out.c4
  have zX : ∀ j, (w2.alloc (Obj.cells #[.int .i64 1, .bool false, .slice none 0 0, .int .i64 e', .bool m'] 138)).frozen? ⟨w2.heap.size, j, none⟩ = false := fun j => by simp [go_sem]
  obtain ⟨y, hy⟩ : ∃ y, (w2.alloc (Obj.cells #[.int .i64 1, .bool false, .slice none 0 0, .int .i64 e', .bool m'] 138)) = y := ⟨_, rfl⟩
  rw [hy] at zX HS2 HQ2 HXb d5 d6 d7 d8 d9 z x0 x1 x2 x3 x4 HN2
  generalize fl6 (metV l) = b6 at *
  generalize fl7 (metV l) = b7 at *
  generalize fl8 (metV l) = b8 at *
  generalize fl9 (metV l) = b9 at *
  cases b6 <;> cases b7 <;> cases b8 <;> cases b9
  all_goals (go_wp2_with fail; exact bodyPost_end (results_none Tryz.results96 _ _ _) rfl ⟨rfl, ⟨_, _, _, _, _, _, _, (HS2.out.put (l' := l ++ [a]) HLN.out HE6.out.symm HE7.out.symm HE8.out.symm HE9.out.symm), fun _ => (HN2.out.put HS2.out.b.c0 HSZ.out)⟩, ((HQ2.out.fb B).trans putS_fb)⟩)
set_option maxHeartbeats 4000000 in
set_option maxRecDepth 100000 in
theorem splus_minf0 (l : List Nat) (a B : Nat) (w : World) (ha : a < 4294967296) (hS : SAt w B l) (h0 : l = []) (hn : l.length ≤ 35184372087808) (hk : numOf Ieee.single a = .inf true) (hne : a ≠ 2147483648) (hsz : sumZ (l ++ [a]) = sumZ l) (E6 : fl6 (metV (l ++ [a])) = (fl6 (metV l) || false)) (E7 : fl7 (metV (l ++ [a])) = (fl7 (metV l) || false)) (E8 : fl8 (metV (l ++ [a])) = (fl8 (metV l) || true)) (E9 : fl9 (metV (l ++ [a])) = (fl9 (metV l) || true)) :
    Calls Tryz.prog 96 #[.pointer (some ⟨B, 0, none⟩), .int .u32 (a : Int)] w fun e' w' => e' = .returned (.tuple #[]) ∧ SAt w' B (l ++ [a]) ∧ Fb B w w' := by
  obtain ⟨k, s, p, L, C, e, m, hS1, hS2⟩ := hS
  have HS : Hid (SFl w B l k s p L C e m) := hS1
  have HK : Hid (numOf Ieee.single a = .inf true) := hk
  have HE6 : Hid _ := E6
  have HE7 : Hid _ := E7
  have HE8 : Hid _ := E8
  have HE9 : Hid _ := E9
  have ew : IntKind.u64.wrap (a : Int) = (a : Int) := by rw [IntKind.wrap_u64]; omega
  have HLN : Hid (((l.length : Int) + 1) = ((l ++ [a]).length : Nat)) := by show ((l.length : Int) + 1) = _; rw [List.length_append, List.length_singleton]; omega
  have hb9 : ((a : Int) != 2147483648) = true := by rw [bne_iff_ne]; omega
  have hb0 : ((l.length : Int) == 0) = true := by rw [h0]; rfl
  have HZ0 : Hid (sumZ l = 0) := by show sumZ l = 0; rw [h0]; rfl
  have hm6 : fl6 (metV l) = false := by rw [h0]; decide
  have hm7 : fl7 (metV l) = false := by rw [h0]; decide
  have hm8 : fl8 (metV l) = false := by rw [h0]; decide
  have hm9 : fl9 (metV l) = false := by rw [h0]; decide
  have HSZ : Hid (sumZ (l ++ [a]) = sumZ l) := hsz
  clear hsz
  clear hS1 hS2 hk h0 E6 E7 E8 E9 hne
  go_enter Tryz.func96, Tryz.ntmps96
  go_wp2_with fail
  refine (f32_any _).mono ?_
  rintro e1 w1 ⟨rfl, q1⟩
  go_wp2_with fail
  refine (of32_any a _ ha).mono ?_
  rintro e1 w2 ⟨v, rfl, hv, q2⟩
  rw [HK.out] at hv
  obtain ⟨e', m', rfl⟩ := hv
  have q3 : Q w2 (w2.alloc (Obj.cells #[.int .i64 1, .bool true, .slice none 0 0, .int .i64 e', .bool m'] 138)) := (Q.refl w2).cells _ _
  have HS2 : Hid (SFl _ B l k s p L C e m) := HS.out.next ((q1.trans q2).trans q3)
  have HQ2 : Hid (Q w _) := (q1.trans q2).trans q3
  have HXb : Hid (Box5 (w2.alloc (Obj.cells #[.int .i64 1, .bool true, .slice none 0 0, .int .i64 e', .bool m'] 138)) w2.heap.size 1 true none 0 0 e' m') := ⟨by simp [go_sem], by simp [go_sem], by simp [go_sem], by simp [go_sem], by simp [go_sem]⟩
  have HBX : Hid (w2.heap.size ≠ B) := by
    have h1 := HS.out.h
    have h2 := (q1.trans q2).1.size
    show w2.heap.size ≠ B
    omega
  have hBX : ¬ B = w2.heap.size := fun e => HBX.out e.symm
  have d5 := HS2.out.n
  have d6 := HS2.out.c6
  have d7 := HS2.out.c7
  have d8 := HS2.out.c8
  have d9 := HS2.out.c9
  have z := HS2.out.z
  have g0 := HS2.out.b.c0
  have g1 := HS2.out.b.c1
  have g2 := HS2.out.b.c2
  have g3 := HS2.out.b.c3
  have g4 := HS2.out.b.c4
  clear q1 q2 HS q3
  have x0 := HXb.out.c0
  have x1 := HXb.out.c1
  have x2 := HXb.out.c2
  have x3 := HXb.out.c3
  have x4 := HXb.out.c4
  have zX : ∀ j, (w2.alloc (Obj.cells #[.int .i64 1, .bool true, .slice none 0 0, .int .i64 e', .bool m'] 138)).frozen? ⟨w2.heap.size, j, none⟩ = false := fun j => by simp [go_sem]
  obtain ⟨y, hy⟩ : ∃ y, (w2.alloc (Obj.cells #[.int .i64 1, .bool true, .slice none 0 0, .int .i64 e', .bool m'] 138)) = y := ⟨_, rfl⟩
  rw [hy] at zX HS2 HQ2 HXb d5 d6 d7 d8 d9 z x0 x1 x2 x3 x4 g0 g1 g2 g3 g4
  rw [hm6] at d6 HE6
  rw [hm7] at d7 HE7
  rw [hm8] at d8 HE8
  rw [hm9] at d9 HE9
  clear hm6 hm7 hm8 hm9
  (go_wp2_with fail; exact bodyPost_end (results_none Tryz.results96 _ _ _) rfl ⟨rfl, ⟨_, _, _, _, _, _, _, ((HS2.out.over 2 false none 0 0 0 false).put (l' := l ++ [a]) HLN.out HE6.out.symm HE7.out.symm HE8.out.symm HE9.out.symm), fun _ => (SNm.put (SNm.over HS2.out.b ⟨0, num_start _, by rw [HZ0.out]; exact Val.start⟩) (put0_box HS2.out.b).c0 HSZ.out)⟩, (((HQ2.out.fb B).trans put0_fb).trans putS_fb)⟩)
set_option maxHeartbeats 4000000 in
set_option maxRecDepth 100000 in
theorem splus_minf (l : List Nat) (a B : Nat) (w : World) (ha : a < 4294967296) (hS : SAt w B l) (h0 : l ≠ []) (hn : l.length ≤ 35184372087808) (hk : numOf Ieee.single a = .inf true) (hne : a ≠ 2147483648) (hsz : sumZ (l ++ [a]) = sumZ l) (E6 : fl6 (metV (l ++ [a])) = (fl6 (metV l) || false)) (E7 : fl7 (metV (l ++ [a])) = (fl7 (metV l) || false)) (E8 : fl8 (metV (l ++ [a])) = (fl8 (metV l) || true)) (E9 : fl9 (metV (l ++ [a])) = (fl9 (metV l) || true)) :
    Calls Tryz.prog 96 #[.pointer (some ⟨B, 0, none⟩), .int .u32 (a : Int)] w fun e' w' => e' = .returned (.tuple #[]) ∧ SAt w' B (l ++ [a]) ∧ Fb B w w' := by
  obtain ⟨k, s, p, L, C, e, m, hS1, hS2⟩ := hS
  have HS : Hid (SFl w B l k s p L C e m) := hS1
  have HK : Hid (numOf Ieee.single a = .inf true) := hk
  have HE6 : Hid _ := E6
  have HE7 : Hid _ := E7
  have HE8 : Hid _ := E8
  have HE9 : Hid _ := E9
  have ew : IntKind.u64.wrap (a : Int) = (a : Int) := by rw [IntKind.wrap_u64]; omega
  have HLN : Hid (((l.length : Int) + 1) = ((l ++ [a]).length : Nat)) := by show ((l.length : Int) + 1) = _; rw [List.length_append, List.length_singleton]; omega
  have hb9 : ((a : Int) != 2147483648) = true := by rw [bne_iff_ne]; omega
  have HN : Hid (SNm w l k s p L C e m) := hS2 h0
  have hb0 : ((l.length : Int) == 0) = false := by
    rw [beq_eq_false_iff_ne]
    have : l.length ≠ 0 := fun g => h0 (List.eq_nil_of_length_eq_zero g)
    omega
  have HSZ : Hid (sumZ (l ++ [a]) = sumZ l) := hsz
  clear hsz
  clear hS1 hS2 hk h0 E6 E7 E8 E9 hne
  go_enter Tryz.func96, Tryz.ntmps96
  go_wp2_with fail
  refine (f32_any _).mono ?_
  rintro e1 w1 ⟨rfl, q1⟩
  go_wp2_with fail
  refine (of32_any a _ ha).mono ?_
  rintro e1 w2 ⟨v, rfl, hv, q2⟩
  rw [HK.out] at hv
  obtain ⟨e', m', rfl⟩ := hv
  have q3 : Q w2 (w2.alloc (Obj.cells #[.int .i64 1, .bool true, .slice none 0 0, .int .i64 e', .bool m'] 138)) := (Q.refl w2).cells _ _
  have HS2 : Hid (SFl _ B l k s p L C e m) := HS.out.next ((q1.trans q2).trans q3)
  have HQ2 : Hid (Q w _) := (q1.trans q2).trans q3
  have HN2 : Hid (SNm _ l k s p L C e m) := HN.out.next ((q1.trans q2).trans q3)
  have HXb : Hid (Box5 (w2.alloc (Obj.cells #[.int .i64 1, .bool true, .slice none 0 0, .int .i64 e', .bool m'] 138)) w2.heap.size 1 true none 0 0 e' m') := ⟨by simp [go_sem], by simp [go_sem], by simp [go_sem], by simp [go_sem], by simp [go_sem]⟩
  have HBX : Hid (w2.heap.size ≠ B) := by
    have h1 := HS.out.h
    have h2 := (q1.trans q2).1.size
    show w2.heap.size ≠ B
    omega
  have hBX : ¬ B = w2.heap.size := fun e => HBX.out e.symm
  have d5 := HS2.out.n
  have d6 := HS2.out.c6
  have d7 := HS2.out.c7
  have d8 := HS2.out.c8
  have d9 := HS2.out.c9
  have z := HS2.out.z
  clear q1 q2 HS q3 HN
  have x0 := HXb.out.c0
  have x1 := HXb.out.c1
  have x2 := HXb.out.c2
  have x3 := HXb.out.c3
  have x4 := HXb.out.c4
  have zX : ∀ j, (w2.alloc (Obj.cells #[.int .i64 1, .bool true, .slice none 0 0, .int .i64 e', .bool m'] 138)).frozen? ⟨w2.heap.size, j, none⟩ = false := fun j => by simp [go_sem]
  obtain ⟨y, hy⟩ : ∃ y, (w2.alloc (Obj.cells #[.int .i64 1, .bool true, .slice none 0 0, .int .i64 e', .bool m'] 138)) = y := ⟨_, rfl⟩
  rw [hy] at zX HS2 HQ2 HXb d5 d6 d7 d8 d9 z x0 x1 x2 x3 x4 HN2
  generalize fl6 (metV l) = b6 at *
  generalize fl7 (metV l) = b7 at *
  generalize fl8 (metV l) = b8 at *
  generalize fl9 (metV l) = b9 at *
  cases b6 <;> cases b7 <;> cases b8 <;> cases b9
  all_goals (go_wp2_with fail; exact bodyPost_end (results_none Tryz.results96 _ _ _) rfl ⟨rfl, ⟨_, _, _, _, _, _, _, (HS2.out.put (l' := l ++ [a]) HLN.out HE6.out.symm HE7.out.symm HE8.out.symm HE9.out.symm), fun _ => (HN2.out.put HS2.out.b.c0 HSZ.out)⟩, ((HQ2.out.fb B).trans putS_fb)⟩)
end Go.Proofs.YtieojgblamkgoaaGreatDoor
/- The document's exact sums: one sample more, nought. -/
namespace Go.Proofs.YtieojgblamkgoaaGreatDoor
open Go.RowKit
set_option linter.unusedVariables false
set_option linter.unusedSimpArgs false

set_option maxHeartbeats 4000000 in
set_option maxRecDepth 100000 in
theorem splus_zero0 (l : List Nat) (a B : Nat) (w : World) (s2 : Bool) (e2 : Int) (c9 : Bool) (hc9 : (((a : Nat) : Int) != 2147483648) = c9) (ha : a < 4294967296) (hS : SAt w B l) (h0 : l = []) (hn : l.length ≤ 35184372087808) (hk : numOf Ieee.single a = .fin s2 0 e2 false) (hsz : sumZ (l ++ [a]) = sumZ l) (E6 : fl6 (metV (l ++ [a])) = (fl6 (metV l) || false)) (E7 : fl7 (metV (l ++ [a])) = (fl7 (metV l) || false)) (E8 : fl8 (metV (l ++ [a])) = (fl8 (metV l) || false)) (E9 : fl9 (metV (l ++ [a])) = (fl9 (metV l) || c9)) :
    Calls Tryz.prog 96 #[.pointer (some ⟨B, 0, none⟩), .int .u32 (a : Int)] w fun e' w' => e' = .returned (.tuple #[]) ∧ SAt w' B (l ++ [a]) ∧ Fb B w w' := by
  obtain ⟨k, s, p, L, C, e, m, hS1, hS2⟩ := hS
  have HS : Hid (SFl w B l k s p L C e m) := hS1
  have HK : Hid (numOf Ieee.single a = .fin s2 0 e2 false) := hk
  have HE6 : Hid _ := E6
  have HE7 : Hid _ := E7
  have HE8 : Hid _ := E8
  have HE9 : Hid _ := E9
  have ew : IntKind.u64.wrap (a : Int) = (a : Int) := by rw [IntKind.wrap_u64]; omega
  have HLN : Hid (((l.length : Int) + 1) = ((l ++ [a]).length : Nat)) := by show ((l.length : Int) + 1) = _; rw [List.length_append, List.length_singleton]; omega
  have hb0 : ((l.length : Int) == 0) = true := by rw [h0]; rfl
  have HZ0 : Hid (sumZ l = 0) := by show sumZ l = 0; rw [h0]; rfl
  have hm6 : fl6 (metV l) = false := by rw [h0]; decide
  have hm7 : fl7 (metV l) = false := by rw [h0]; decide
  have hm8 : fl8 (metV l) = false := by rw [h0]; decide
  have hm9 : fl9 (metV l) = false := by rw [h0]; decide
  have HSZ : Hid (sumZ (l ++ [a]) = sumZ l) := hsz
  clear hsz
  clear hS1 hS2 hk h0 E6 E7 E8 E9
  go_enter Tryz.func96, Tryz.ntmps96
  go_wp2_with fail
  refine (f32_any _).mono ?_
  rintro e1 w1 ⟨rfl, q1⟩
  go_wp2_with fail
  refine (of32_any a _ ha).mono ?_
  rintro e1 w2 ⟨v, rfl, hv, q2⟩
  rw [HK.out] at hv
  obtain ⟨p2, b2, L2, C2, rfl, hnI⟩ : ∃ p2 b2 L2 C2, v = num5 2 s2 p2 L2 C2 e2 false ∧ NatIs w2 p2 b2 L2 0 := by
    obtain ⟨nv, rfl, p2, b2, L2, C2, rfl, hI⟩ := hv
    exact ⟨p2, b2, L2, C2, rfl, hI⟩
  unfold num5
  have q3 : Q w2 (w2.alloc (Obj.cells #[.int .i64 2, .bool s2, .slice p2 L2 C2, .int .i64 e2, .bool false] 138)) := (Q.refl w2).cells _ _
  have HS2 : Hid (SFl _ B l k s p L C e m) := HS.out.next ((q1.trans q2).trans q3)
  have HQ2 : Hid (Q w _) := (q1.trans q2).trans q3
  have HXn : Hid (NumAt (w2.alloc (Obj.cells #[.int .i64 2, .bool s2, .slice p2 L2 C2, .int .i64 e2, .bool false] 138)) (num5 2 s2 p2 L2 C2 e2 false) (.fin s2 0 e2 false)) := ⟨_, rfl, p2, b2, L2, C2, rfl, q3.natIs hnI⟩
  have HXb : Hid (Box5 (w2.alloc (Obj.cells #[.int .i64 2, .bool s2, .slice p2 L2 C2, .int .i64 e2, .bool false] 138)) w2.heap.size 2 s2 p2 L2 C2 e2 false) := ⟨by simp [go_sem], by simp [go_sem], by simp [go_sem], by simp [go_sem], by simp [go_sem]⟩
  have HBX : Hid (w2.heap.size ≠ B) := by
    have h1 := HS.out.h
    have h2 := (q1.trans q2).1.size
    show w2.heap.size ≠ B
    omega
  have hBX : ¬ B = w2.heap.size := fun e => HBX.out e.symm
  clear hnI
  have d5 := HS2.out.n
  have d6 := HS2.out.c6
  have d7 := HS2.out.c7
  have d8 := HS2.out.c8
  have d9 := HS2.out.c9
  have z := HS2.out.z
  have g0 := HS2.out.b.c0
  have g1 := HS2.out.b.c1
  have g2 := HS2.out.b.c2
  have g3 := HS2.out.b.c3
  have g4 := HS2.out.b.c4
  clear q1 q2 HS q3
  have x0 := HXb.out.c0
  have x1 := HXb.out.c1
  have x2 := HXb.out.c2
  have x3 := HXb.out.c3
  have x4 := HXb.out.c4
  have hyy : (w2.alloc (Obj.cells #[.int .i64 2, .bool s2, .slice p2 L2 C2, .int .i64 e2, .bool false] 138)).setCell ⟨w2.heap.size, 4, none⟩ (.bool false) = (w2.alloc (Obj.cells #[.int .i64 2, .bool s2, .slice p2 L2 C2, .int .i64 e2, .bool false] 138)) := by simp [go_sem]
  have zX : ∀ j, (w2.alloc (Obj.cells #[.int .i64 2, .bool s2, .slice p2 L2 C2, .int .i64 e2, .bool false] 138)).frozen? ⟨w2.heap.size, j, none⟩ = false := fun j => by simp [go_sem]
  obtain ⟨y, hy⟩ : ∃ y, (w2.alloc (Obj.cells #[.int .i64 2, .bool s2, .slice p2 L2 C2, .int .i64 e2, .bool false] 138)) = y := ⟨_, rfl⟩
  rw [hy] at hyy zX HS2 HQ2 HXb d5 d6 d7 d8 d9 z x0 x1 x2 x3 x4 HXn g0 g1 g2 g3 g4
  rw [hm6] at d6 HE6
  rw [hm7] at d7 HE7
  rw [hm8] at d8 HE8
  rw [hm9] at d9 HE9
  clear hm6 hm7 hm8 hm9
  (go_wp2_with fail; have hXn' : ∀ n x6 x7 x8 x9, NumAt (putS (put0 y B 2 false none 0 0 0 false) B n x6 x7 x8 x9) (num5 2 s2 p2 L2 C2 e2 false) (.fin s2 0 e2 false) := fun n x6 x7 x8 x9 => numAt_but HXn.out HS2.out.b.c0 (fun q hq => (putS_far (Or.inl hq)).trans (put0_far (Or.inl hq))); refine (zero_q _ _ _ (hXn' _ _ _ _ _)).mono ?_; rintro e2' w5 ⟨rfl, q5⟩; rw [zeroB_fin, decide_eq_true rfl]; go_wp2_with fail; exact bodyPost_end (results_none Tryz.results96 _ _ _) rfl ⟨rfl, SAt.next ⟨_, _, _, _, _, _, _, ((HS2.out.over 2 false none 0 0 0 false).put (l' := l ++ [a]) HLN.out HE6.out.symm HE7.out.symm HE8.out.symm HE9.out.symm), fun _ => (SNm.put (SNm.over HS2.out.b ⟨0, num_start _, by rw [HZ0.out]; exact Val.start⟩) (put0_box HS2.out.b).c0 HSZ.out)⟩ q5, (((HQ2.out.fb B).trans put0_fb).trans putS_fb).trans (q5.fb B)⟩)
set_option maxHeartbeats 4000000 in
set_option maxRecDepth 100000 in
theorem splus_zero (l : List Nat) (a B : Nat) (w : World) (s2 : Bool) (e2 : Int) (c9 : Bool) (hc9 : (((a : Nat) : Int) != 2147483648) = c9) (ha : a < 4294967296) (hS : SAt w B l) (h0 : l ≠ []) (hn : l.length ≤ 35184372087808) (hk : numOf Ieee.single a = .fin s2 0 e2 false) (hsz : sumZ (l ++ [a]) = sumZ l) (E6 : fl6 (metV (l ++ [a])) = (fl6 (metV l) || false)) (E7 : fl7 (metV (l ++ [a])) = (fl7 (metV l) || false)) (E8 : fl8 (metV (l ++ [a])) = (fl8 (metV l) || false)) (E9 : fl9 (metV (l ++ [a])) = (fl9 (metV l) || c9)) :
    Calls Tryz.prog 96 #[.pointer (some ⟨B, 0, none⟩), .int .u32 (a : Int)] w fun e' w' => e' = .returned (.tuple #[]) ∧ SAt w' B (l ++ [a]) ∧ Fb B w w' := by
  obtain ⟨k, s, p, L, C, e, m, hS1, hS2⟩ := hS
  have HS : Hid (SFl w B l k s p L C e m) := hS1
  have HK : Hid (numOf Ieee.single a = .fin s2 0 e2 false) := hk
  have HE6 : Hid _ := E6
  have HE7 : Hid _ := E7
  have HE8 : Hid _ := E8
  have HE9 : Hid _ := E9
  have ew : IntKind.u64.wrap (a : Int) = (a : Int) := by rw [IntKind.wrap_u64]; omega
  have HLN : Hid (((l.length : Int) + 1) = ((l ++ [a]).length : Nat)) := by show ((l.length : Int) + 1) = _; rw [List.length_append, List.length_singleton]; omega
  have HN : Hid (SNm w l k s p L C e m) := hS2 h0
  have hb0 : ((l.length : Int) == 0) = false := by
    rw [beq_eq_false_iff_ne]
    have : l.length ≠ 0 := fun g => h0 (List.eq_nil_of_length_eq_zero g)
    omega
  have HSZ : Hid (sumZ (l ++ [a]) = sumZ l) := hsz
  clear hsz
  clear hS1 hS2 hk h0 E6 E7 E8 E9
  go_enter Tryz.func96, Tryz.ntmps96
  go_wp2_with fail
  refine (f32_any _).mono ?_
  rintro e1 w1 ⟨rfl, q1⟩
  go_wp2_with fail
  refine (of32_any a _ ha).mono ?_
  rintro e1 w2 ⟨v, rfl, hv, q2⟩
  rw [HK.out] at hv
  obtain ⟨p2, b2, L2, C2, rfl, hnI⟩ : ∃ p2 b2 L2 C2, v = num5 2 s2 p2 L2 C2 e2 false ∧ NatIs w2 p2 b2 L2 0 := by
    obtain ⟨nv, rfl, p2, b2, L2, C2, rfl, hI⟩ := hv
    exact ⟨p2, b2, L2, C2, rfl, hI⟩
  unfold num5
  have q3 : Q w2 (w2.alloc (Obj.cells #[.int .i64 2, .bool s2, .slice p2 L2 C2, .int .i64 e2, .bool false] 138)) := (Q.refl w2).cells _ _
  have HS2 : Hid (SFl _ B l k s p L C e m) := HS.out.next ((q1.trans q2).trans q3)
  have HQ2 : Hid (Q w _) := (q1.trans q2).trans q3
  have HN2 : Hid (SNm _ l k s p L C e m) := HN.out.next ((q1.trans q2).trans q3)
  have HXn : Hid (NumAt (w2.alloc (Obj.cells #[.int .i64 2, .bool s2, .slice p2 L2 C2, .int .i64 e2, .bool false] 138)) (num5 2 s2 p2 L2 C2 e2 false) (.fin s2 0 e2 false)) := ⟨_, rfl, p2, b2, L2, C2, rfl, q3.natIs hnI⟩
  have HXb : Hid (Box5 (w2.alloc (Obj.cells #[.int .i64 2, .bool s2, .slice p2 L2 C2, .int .i64 e2, .bool false] 138)) w2.heap.size 2 s2 p2 L2 C2 e2 false) := ⟨by simp [go_sem], by simp [go_sem], by simp [go_sem], by simp [go_sem], by simp [go_sem]⟩
  have HBX : Hid (w2.heap.size ≠ B) := by
    have h1 := HS.out.h
    have h2 := (q1.trans q2).1.size
    show w2.heap.size ≠ B
    omega
  have hBX : ¬ B = w2.heap.size := fun e => HBX.out e.symm
  clear hnI
  have d5 := HS2.out.n
  have d6 := HS2.out.c6
  have d7 := HS2.out.c7
  have d8 := HS2.out.c8
  have d9 := HS2.out.c9
  have z := HS2.out.z
  clear q1 q2 HS q3 HN
  have x0 := HXb.out.c0
  have x1 := HXb.out.c1
  have x2 := HXb.out.c2
  have x3 := HXb.out.c3
  have x4 := HXb.out.c4
  have hyy : (w2.alloc (Obj.cells #[.int .i64 2, .bool s2, .slice p2 L2 C2, .int .i64 e2, .bool false] 138)).setCell ⟨w2.heap.size, 4, none⟩ (.bool false) = (w2.alloc (Obj.cells #[.int .i64 2, .bool s2, .slice p2 L2 C2, .int .i64 e2, .bool false] 138)) := by simp [go_sem]
  have zX : ∀ j, (w2.alloc (Obj.cells #[.int .i64 2, .bool s2, .slice p2 L2 C2, .int .i64 e2, .bool false] 138)).frozen? ⟨w2.heap.size, j, none⟩ = false := fun j => by simp [go_sem]
  obtain ⟨y, hy⟩ : ∃ y, (w2.alloc (Obj.cells #[.int .i64 2, .bool s2, .slice p2 L2 C2, .int .i64 e2, .bool false] 138)) = y := ⟨_, rfl⟩
  rw [hy] at hyy zX HS2 HQ2 HXb d5 d6 d7 d8 d9 z x0 x1 x2 x3 x4 HN2 HXn
  generalize fl6 (metV l) = b6 at *
  generalize fl7 (metV l) = b7 at *
  generalize fl8 (metV l) = b8 at *
  generalize fl9 (metV l) = b9 at *
  cases b6 <;> cases b7 <;> cases b8 <;> cases b9
  all_goals (go_wp2_with fail; have hXn' : ∀ n x6 x7 x8 x9, NumAt (putS y B n x6 x7 x8 x9) (num5 2 s2 p2 L2 C2 e2 false) (.fin s2 0 e2 false) := fun n x6 x7 x8 x9 => numAt_but HXn.out HS2.out.b.c0 (fun q hq => putS_far (Or.inl hq)); refine (zero_q _ _ _ (hXn' _ _ _ _ _)).mono ?_; rintro e2' w5 ⟨rfl, q5⟩; rw [zeroB_fin, decide_eq_true rfl]; go_wp2_with fail; exact bodyPost_end (results_none Tryz.results96 _ _ _) rfl ⟨rfl, SAt.next ⟨_, _, _, _, _, _, _, (HS2.out.put (l' := l ++ [a]) HLN.out HE6.out.symm HE7.out.symm HE8.out.symm HE9.out.symm), fun _ => (HN2.out.put HS2.out.b.c0 HSZ.out)⟩ q5, ((HQ2.out.fb B).trans putS_fb).trans (q5.fb B)⟩)
end Go.Proofs.YtieojgblamkgoaaGreatDoor
/- The document's exact sums: one sample more, a number. -/
namespace Go.Proofs.YtieojgblamkgoaaGreatDoor
open Go.RowKit
set_option linter.unusedVariables false
set_option linter.unusedSimpArgs false

set_option maxHeartbeats 4000000 in
set_option maxRecDepth 100000 in
theorem splus_fin0 (l : List Nat) (a B : Nat) (w : World) (s2 : Bool) (e2 : Int) (n2 : Nat) (hn2 : n2 ≠ 0) (y2 : Int) (hV : Val s2 n2 e2 y2) (hy2 : sumZ (l ++ [a]) = sumZ l + y2) (hzl : 2 * (sumZ l).natAbs < m64 ^ 5) (hzy : 2 * y2.natAbs < m64 ^ 5) (ha : a < 4294967296) (hS : SAt w B l) (h0 : l = []) (hn : l.length ≤ 35184372087808) (hk : numOf Ieee.single a = .fin s2 n2 e2 false) (hne : a ≠ 2147483648) (E6 : fl6 (metV (l ++ [a])) = (fl6 (metV l) || false)) (E7 : fl7 (metV (l ++ [a])) = (fl7 (metV l) || false)) (E8 : fl8 (metV (l ++ [a])) = (fl8 (metV l) || false)) (E9 : fl9 (metV (l ++ [a])) = (fl9 (metV l) || true)) :
    Calls Tryz.prog 96 #[.pointer (some ⟨B, 0, none⟩), .int .u32 (a : Int)] w fun e' w' => e' = .returned (.tuple #[]) ∧ SAt w' B (l ++ [a]) ∧ Fb B w w' := by
  obtain ⟨k, s, p, L, C, e, m, hS1, hS2⟩ := hS
  have HS : Hid (SFl w B l k s p L C e m) := hS1
  have HK : Hid (numOf Ieee.single a = .fin s2 n2 e2 false) := hk
  have HE6 : Hid _ := E6
  have HE7 : Hid _ := E7
  have HE8 : Hid _ := E8
  have HE9 : Hid _ := E9
  have ew : IntKind.u64.wrap (a : Int) = (a : Int) := by rw [IntKind.wrap_u64]; omega
  have HLN : Hid (((l.length : Int) + 1) = ((l ++ [a]).length : Nat)) := by show ((l.length : Int) + 1) = _; rw [List.length_append, List.length_singleton]; omega
  have hb9 : ((a : Int) != 2147483648) = true := by rw [bne_iff_ne]; omega
  have hb0 : ((l.length : Int) == 0) = true := by rw [h0]; rfl
  have HZ0 : Hid (sumZ l = 0) := by show sumZ l = 0; rw [h0]; rfl
  have hm6 : fl6 (metV l) = false := by rw [h0]; decide
  have hm7 : fl7 (metV l) = false := by rw [h0]; decide
  have hm8 : fl8 (metV l) = false := by rw [h0]; decide
  have hm9 : fl9 (metV l) = false := by rw [h0]; decide
  have HVv : Hid (Val s2 n2 e2 y2) := hV
  have HY : Hid (sumZ (l ++ [a]) = sumZ l + y2) := hy2
  have HZL : Hid (2 * (sumZ l).natAbs < m64 ^ 5) := hzl
  have HZY : Hid (2 * y2.natAbs < m64 ^ 5) := hzy
  clear hV hy2 hzl hzy
  clear hS1 hS2 hk h0 E6 E7 E8 E9 hne
  go_enter Tryz.func96, Tryz.ntmps96
  go_wp2_with fail
  refine (f32_any _).mono ?_
  rintro e1 w1 ⟨rfl, q1⟩
  go_wp2_with fail
  refine (of32_any a _ ha).mono ?_
  rintro e1 w2 ⟨v, rfl, hv, q2⟩
  rw [HK.out] at hv
  obtain ⟨p2, b2, L2, C2, rfl, hnI⟩ : ∃ p2 b2 L2 C2, v = num5 2 s2 p2 L2 C2 e2 false ∧ NatIs w2 p2 b2 L2 n2 := by
    obtain ⟨nv, rfl, p2, b2, L2, C2, rfl, hI⟩ := hv
    exact ⟨p2, b2, L2, C2, rfl, hI⟩
  unfold num5
  have q3 : Q w2 (w2.alloc (Obj.cells #[.int .i64 2, .bool s2, .slice p2 L2 C2, .int .i64 e2, .bool false] 138)) := (Q.refl w2).cells _ _
  have HS2 : Hid (SFl _ B l k s p L C e m) := HS.out.next ((q1.trans q2).trans q3)
  have HQ2 : Hid (Q w _) := (q1.trans q2).trans q3
  have HXn : Hid (NumAt (w2.alloc (Obj.cells #[.int .i64 2, .bool s2, .slice p2 L2 C2, .int .i64 e2, .bool false] 138)) (num5 2 s2 p2 L2 C2 e2 false) (.fin s2 n2 e2 false)) := ⟨_, rfl, p2, b2, L2, C2, rfl, q3.natIs hnI⟩
  have HXb : Hid (Box5 (w2.alloc (Obj.cells #[.int .i64 2, .bool s2, .slice p2 L2 C2, .int .i64 e2, .bool false] 138)) w2.heap.size 2 s2 p2 L2 C2 e2 false) := ⟨by simp [go_sem], by simp [go_sem], by simp [go_sem], by simp [go_sem], by simp [go_sem]⟩
  have HBX : Hid (w2.heap.size ≠ B) := by
    have h1 := HS.out.h
    have h2 := (q1.trans q2).1.size
    show w2.heap.size ≠ B
    omega
  have hBX : ¬ B = w2.heap.size := fun e => HBX.out e.symm
  clear hnI
  have d5 := HS2.out.n
  have d6 := HS2.out.c6
  have d7 := HS2.out.c7
  have d8 := HS2.out.c8
  have d9 := HS2.out.c9
  have z := HS2.out.z
  have g0 := HS2.out.b.c0
  have g1 := HS2.out.b.c1
  have g2 := HS2.out.b.c2
  have g3 := HS2.out.b.c3
  have g4 := HS2.out.b.c4
  clear q1 q2 HS q3
  have x0 := HXb.out.c0
  have x1 := HXb.out.c1
  have x2 := HXb.out.c2
  have x3 := HXb.out.c3
  have x4 := HXb.out.c4
  have hyy : (w2.alloc (Obj.cells #[.int .i64 2, .bool s2, .slice p2 L2 C2, .int .i64 e2, .bool false] 138)).setCell ⟨w2.heap.size, 4, none⟩ (.bool false) = (w2.alloc (Obj.cells #[.int .i64 2, .bool s2, .slice p2 L2 C2, .int .i64 e2, .bool false] 138)) := by simp [go_sem]
  have zX : ∀ j, (w2.alloc (Obj.cells #[.int .i64 2, .bool s2, .slice p2 L2 C2, .int .i64 e2, .bool false] 138)).frozen? ⟨w2.heap.size, j, none⟩ = false := fun j => by simp [go_sem]
  obtain ⟨y, hy⟩ : ∃ y, (w2.alloc (Obj.cells #[.int .i64 2, .bool s2, .slice p2 L2 C2, .int .i64 e2, .bool false] 138)) = y := ⟨_, rfl⟩
  rw [hy] at hyy zX HS2 HQ2 HXb d5 d6 d7 d8 d9 z x0 x1 x2 x3 x4 HXn g0 g1 g2 g3 g4
  rw [hm6] at d6 HE6
  rw [hm7] at d7 HE7
  rw [hm8] at d8 HE8
  rw [hm9] at d9 HE9
  clear hm6 hm7 hm8 hm9
  (go_wp2_with fail; have hXn' : ∀ n x6 x7 x8 x9, NumAt (putS (put0 y B 2 false none 0 0 0 false) B n x6 x7 x8 x9) (num5 2 s2 p2 L2 C2 e2 false) (.fin s2 n2 e2 false) := fun n x6 x7 x8 x9 => numAt_but HXn.out HS2.out.b.c0 (fun q hq => (putS_far (Or.inl hq)).trans (put0_far (Or.inl hq))); refine (zero_q _ _ _ (hXn' _ _ _ _ _)).mono ?_; rintro e2' w5 ⟨rfl, q5⟩; rw [zeroB_fin, decide_eq_false hn2]; have hS5 := SFl.next ((HS2.out.over 2 false none 0 0 0 false).put (l' := l ++ [a]) HLN.out HE6.out.symm HE7.out.symm HE8.out.symm HE9.out.symm) q5; obtain ⟨n1, hn1, hv1⟩ := SNm.next (SNm.put (l' := l) (SNm.over HS2.out.b (l := l) ⟨0, num_start _, by rw [HZ0.out]; exact Val.start⟩) (put0_box HS2.out.b).c0 rfl) q5; obtain ⟨u, kk, bb, hpr, hvv⟩ := hv1.plus HVv.out; have HX5 : Hid (Box5 w5 w2.heap.size 2 s2 p2 L2 C2 e2 false) := ⟨q5.cell (((putS_far (Or.inl HBX.out)).trans (put0_far (Or.inl HBX.out))).trans HXb.out.c0), q5.cell (((putS_far (Or.inl HBX.out)).trans (put0_far (Or.inl HBX.out))).trans HXb.out.c1), q5.cell (((putS_far (Or.inl HBX.out)).trans (put0_far (Or.inl HBX.out))).trans HXb.out.c2), q5.cell (((putS_far (Or.inl HBX.out)).trans (put0_far (Or.inl HBX.out))).trans HXb.out.c3), q5.cell (((putS_far (Or.inl HBX.out)).trans (put0_far (Or.inl HBX.out))).trans HXb.out.c4)⟩; have HS5 : Hid _ := hS5; have HN1 : Hid _ := hn1; have HV1 : Hid _ := hv1; have HPR : Hid _ := hpr; have HVV : Hid _ := hvv; have HXN : Hid (NumAt w5 (num5 2 s2 p2 L2 C2 e2 false) (.fin s2 n2 e2 false)) := q5.num (hXn' _ _ _ _ _); have HF5 : Hid (Fb B w w5) := (((HQ2.out.fb B).trans put0_fb).trans putS_fb).trans (q5.fb B); clear hS5 hn1 hv1 hpr hvv q5 hXn'; go_wp2_with fail; refine regionP9 (R1 := .fin _ n1 _ false) (R2 := .fin s2 n2 e2 false) rfl rfl ⟨rfl, rfl, HS5.out.b, HX5.out, HN1.out, HXN.out, HV1.out.small HZL.out, HVv.out.small HZY.out, HS5.out.z⟩ ?_; intro a9 x9 k' s' p' L' C' e' m' q9 df hNum; rw [HPR.out] at hNum; have HR : Hid (SAt (put0 x9 B k' s' p' L' C' e' m') B (l ++ [a])) := SAt.over (HS5.out.next q9) hNum (by rw [HY.out]; exact HVV.out); have HF9 : Hid (Fb B w (put0 x9 B k' s' p' L' C' e' m')) := (HF5.out.trans (q9.fb B)).trans put0_fb; go_wp2_with fail; exact bodyPost_end (results_none Tryz.results96 _ _ _) df ⟨rfl, HR.out, HF9.out⟩)
set_option maxHeartbeats 4000000 in
set_option maxRecDepth 100000 in
theorem splus_fin (l : List Nat) (a B : Nat) (w : World) (s2 : Bool) (e2 : Int) (n2 : Nat) (hn2 : n2 ≠ 0) (y2 : Int) (hV : Val s2 n2 e2 y2) (hy2 : sumZ (l ++ [a]) = sumZ l + y2) (hzl : 2 * (sumZ l).natAbs < m64 ^ 5) (hzy : 2 * y2.natAbs < m64 ^ 5) (ha : a < 4294967296) (hS : SAt w B l) (h0 : l ≠ []) (hn : l.length ≤ 35184372087808) (hk : numOf Ieee.single a = .fin s2 n2 e2 false) (hne : a ≠ 2147483648) (E6 : fl6 (metV (l ++ [a])) = (fl6 (metV l) || false)) (E7 : fl7 (metV (l ++ [a])) = (fl7 (metV l) || false)) (E8 : fl8 (metV (l ++ [a])) = (fl8 (metV l) || false)) (E9 : fl9 (metV (l ++ [a])) = (fl9 (metV l) || true)) :
    Calls Tryz.prog 96 #[.pointer (some ⟨B, 0, none⟩), .int .u32 (a : Int)] w fun e' w' => e' = .returned (.tuple #[]) ∧ SAt w' B (l ++ [a]) ∧ Fb B w w' := by
  obtain ⟨k, s, p, L, C, e, m, hS1, hS2⟩ := hS
  have HS : Hid (SFl w B l k s p L C e m) := hS1
  have HK : Hid (numOf Ieee.single a = .fin s2 n2 e2 false) := hk
  have HE6 : Hid _ := E6
  have HE7 : Hid _ := E7
  have HE8 : Hid _ := E8
  have HE9 : Hid _ := E9
  have ew : IntKind.u64.wrap (a : Int) = (a : Int) := by rw [IntKind.wrap_u64]; omega
  have HLN : Hid (((l.length : Int) + 1) = ((l ++ [a]).length : Nat)) := by show ((l.length : Int) + 1) = _; rw [List.length_append, List.length_singleton]; omega
  have hb9 : ((a : Int) != 2147483648) = true := by rw [bne_iff_ne]; omega
  have HN : Hid (SNm w l k s p L C e m) := hS2 h0
  have hb0 : ((l.length : Int) == 0) = false := by
    rw [beq_eq_false_iff_ne]
    have : l.length ≠ 0 := fun g => h0 (List.eq_nil_of_length_eq_zero g)
    omega
  have HVv : Hid (Val s2 n2 e2 y2) := hV
  have HY : Hid (sumZ (l ++ [a]) = sumZ l + y2) := hy2
  have HZL : Hid (2 * (sumZ l).natAbs < m64 ^ 5) := hzl
  have HZY : Hid (2 * y2.natAbs < m64 ^ 5) := hzy
  clear hV hy2 hzl hzy
  clear hS1 hS2 hk h0 E6 E7 E8 E9 hne
  go_enter Tryz.func96, Tryz.ntmps96
  go_wp2_with fail
  refine (f32_any _).mono ?_
  rintro e1 w1 ⟨rfl, q1⟩
  go_wp2_with fail
  refine (of32_any a _ ha).mono ?_
  rintro e1 w2 ⟨v, rfl, hv, q2⟩
  rw [HK.out] at hv
  obtain ⟨p2, b2, L2, C2, rfl, hnI⟩ : ∃ p2 b2 L2 C2, v = num5 2 s2 p2 L2 C2 e2 false ∧ NatIs w2 p2 b2 L2 n2 := by
    obtain ⟨nv, rfl, p2, b2, L2, C2, rfl, hI⟩ := hv
    exact ⟨p2, b2, L2, C2, rfl, hI⟩
  unfold num5
  have q3 : Q w2 (w2.alloc (Obj.cells #[.int .i64 2, .bool s2, .slice p2 L2 C2, .int .i64 e2, .bool false] 138)) := (Q.refl w2).cells _ _
  have HS2 : Hid (SFl _ B l k s p L C e m) := HS.out.next ((q1.trans q2).trans q3)
  have HQ2 : Hid (Q w _) := (q1.trans q2).trans q3
  have HN2 : Hid (SNm _ l k s p L C e m) := HN.out.next ((q1.trans q2).trans q3)
  have HXn : Hid (NumAt (w2.alloc (Obj.cells #[.int .i64 2, .bool s2, .slice p2 L2 C2, .int .i64 e2, .bool false] 138)) (num5 2 s2 p2 L2 C2 e2 false) (.fin s2 n2 e2 false)) := ⟨_, rfl, p2, b2, L2, C2, rfl, q3.natIs hnI⟩
  have HXb : Hid (Box5 (w2.alloc (Obj.cells #[.int .i64 2, .bool s2, .slice p2 L2 C2, .int .i64 e2, .bool false] 138)) w2.heap.size 2 s2 p2 L2 C2 e2 false) := ⟨by simp [go_sem], by simp [go_sem], by simp [go_sem], by simp [go_sem], by simp [go_sem]⟩
  have HBX : Hid (w2.heap.size ≠ B) := by
    have h1 := HS.out.h
    have h2 := (q1.trans q2).1.size
    show w2.heap.size ≠ B
    omega
  have hBX : ¬ B = w2.heap.size := fun e => HBX.out e.symm
  clear hnI
  have d5 := HS2.out.n
  have d6 := HS2.out.c6
  have d7 := HS2.out.c7
  have d8 := HS2.out.c8
  have d9 := HS2.out.c9
  have z := HS2.out.z
  clear q1 q2 HS q3 HN
  have x0 := HXb.out.c0
  have x1 := HXb.out.c1
  have x2 := HXb.out.c2
  have x3 := HXb.out.c3
  have x4 := HXb.out.c4
  have hyy : (w2.alloc (Obj.cells #[.int .i64 2, .bool s2, .slice p2 L2 C2, .int .i64 e2, .bool false] 138)).setCell ⟨w2.heap.size, 4, none⟩ (.bool false) = (w2.alloc (Obj.cells #[.int .i64 2, .bool s2, .slice p2 L2 C2, .int .i64 e2, .bool false] 138)) := by simp [go_sem]
  have zX : ∀ j, (w2.alloc (Obj.cells #[.int .i64 2, .bool s2, .slice p2 L2 C2, .int .i64 e2, .bool false] 138)).frozen? ⟨w2.heap.size, j, none⟩ = false := fun j => by simp [go_sem]
  obtain ⟨y, hy⟩ : ∃ y, (w2.alloc (Obj.cells #[.int .i64 2, .bool s2, .slice p2 L2 C2, .int .i64 e2, .bool false] 138)) = y := ⟨_, rfl⟩
  rw [hy] at hyy zX HS2 HQ2 HXb d5 d6 d7 d8 d9 z x0 x1 x2 x3 x4 HN2 HXn
  generalize fl6 (metV l) = b6 at *
  generalize fl7 (metV l) = b7 at *
  generalize fl8 (metV l) = b8 at *
  generalize fl9 (metV l) = b9 at *
  cases b6 <;> cases b7 <;> cases b8 <;> cases b9
  all_goals (go_wp2_with fail; have hXn' : ∀ n x6 x7 x8 x9, NumAt (putS y B n x6 x7 x8 x9) (num5 2 s2 p2 L2 C2 e2 false) (.fin s2 n2 e2 false) := fun n x6 x7 x8 x9 => numAt_but HXn.out HS2.out.b.c0 (fun q hq => putS_far (Or.inl hq)); refine (zero_q _ _ _ (hXn' _ _ _ _ _)).mono ?_; rintro e2' w5 ⟨rfl, q5⟩; rw [zeroB_fin, decide_eq_false hn2]; have hS5 := SFl.next (HS2.out.put (l' := l ++ [a]) HLN.out HE6.out.symm HE7.out.symm HE8.out.symm HE9.out.symm) q5; obtain ⟨n1, hn1, hv1⟩ := SNm.next (SNm.put (l' := l) HN2.out HS2.out.b.c0 rfl) q5; obtain ⟨u, kk, bb, hpr, hvv⟩ := hv1.plus HVv.out; have HX5 : Hid (Box5 w5 w2.heap.size 2 s2 p2 L2 C2 e2 false) := ⟨q5.cell ((putS_far (Or.inl HBX.out)).trans HXb.out.c0), q5.cell ((putS_far (Or.inl HBX.out)).trans HXb.out.c1), q5.cell ((putS_far (Or.inl HBX.out)).trans HXb.out.c2), q5.cell ((putS_far (Or.inl HBX.out)).trans HXb.out.c3), q5.cell ((putS_far (Or.inl HBX.out)).trans HXb.out.c4)⟩; have HS5 : Hid _ := hS5; have HN1 : Hid _ := hn1; have HV1 : Hid _ := hv1; have HPR : Hid _ := hpr; have HVV : Hid _ := hvv; have HXN : Hid (NumAt w5 (num5 2 s2 p2 L2 C2 e2 false) (.fin s2 n2 e2 false)) := q5.num (hXn' _ _ _ _ _); have HF5 : Hid (Fb B w w5) := ((HQ2.out.fb B).trans putS_fb).trans (q5.fb B); clear hS5 hn1 hv1 hpr hvv q5 hXn'; go_wp2_with fail; refine regionP9 (R1 := .fin _ n1 _ false) (R2 := .fin s2 n2 e2 false) rfl rfl ⟨rfl, rfl, HS5.out.b, HX5.out, HN1.out, HXN.out, HV1.out.small HZL.out, HVv.out.small HZY.out, HS5.out.z⟩ ?_; intro a9 x9 k' s' p' L' C' e' m' q9 df hNum; rw [HPR.out] at hNum; have HR : Hid (SAt (put0 x9 B k' s' p' L' C' e' m') B (l ++ [a])) := SAt.over (HS5.out.next q9) hNum (by rw [HY.out]; exact HVV.out); have HF9 : Hid (Fb B w (put0 x9 B k' s' p' L' C' e' m')) := (HF5.out.trans (q9.fb B)).trans put0_fb; go_wp2_with fail; exact bodyPost_end (results_none Tryz.results96 _ _ _) df ⟨rfl, HR.out, HF9.out⟩)
end Go.Proofs.YtieojgblamkgoaaGreatDoor
