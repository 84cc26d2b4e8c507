/- The document's exact sums: of lists. -/
import Derived.Test.YtjjjgdpgfndbdaaDoorG05274873
import Derived.Test.YtjjjgdpgfndbdaaDoorGfc8974ae
import Derived.Test.YtjjjgdpgfndbdaaDoorGa93c4d7e
import Derived.Test.YtjjjgdpgfndbdaaDoorGfb6a17db
import Derived.Test.YtjjjgdpgfndbdaaDoorG30f06f31
import Derived.Test.YtjjjgdpgfndbdaaDoorGe5b8b7c6
namespace Go.Proofs.YtjjjgdpgfndbdaaDoor
open Go.RowKit
set_option linter.unusedVariables false
set_option linter.unusedSimpArgs false

theorem splus_any (l : List Nat) (a B : Nat) (w : World) (ha : a < 4294967296) (hS : SAt w B l) (hn : l.length ≤ 1000000) (hb : ∀ s ∈ l, s < 4294967296) :
    Calls Tryd.prog 73 #[.pointer (some ⟨B, 0, none⟩), .int .u32 (a : Int)] w fun e' w' => e' = .returned (.tuple #[]) ∧ SAt w' B (l ++ [a]) ∧ Fb B w w' := by
  have hz := sumZ_fits hb (by omega)
  have hm := metV_lt l
  have hsn := sumZ_snoc l a
  have hmn := metV_snoc l a
  rcases kind_cases a ha with ⟨h1, h2, h3⟩ | ⟨h1, h2, h3⟩ | ⟨h1, h2, h3⟩ | ⟨h1, h2, h3⟩ | ⟨h1, h2, h3⟩
  · have u := fl_upd _ hm 16 (by decide)
    rw [h1] at hmn
    rw [← hmn] at u
    have e : sumZ (l ++ [a]) = sumZ l := by rw [hsn, unK_odd (by rw [h1]; decide), Int.add_zero]
    by_cases h0 : l = []
    · exact splus_nan0 l a B w ha hS h0 (by omega) h2 h3 e u.1 u.2.1 u.2.2.1 u.2.2.2
    · exact splus_nan l a B w ha hS h0 (by omega) h2 h3 e u.1 u.2.1 u.2.2.1 u.2.2.2
  · have u := fl_upd _ hm 4 (by decide)
    rw [h1] at hmn
    rw [← hmn] at u
    have e : sumZ (l ++ [a]) = sumZ l := by rw [hsn, unK_odd (by rw [h1]; decide), Int.add_zero]
    by_cases h0 : l = []
    · exact splus_pinf0 l a B w ha hS h0 (by omega) h2 h3 e u.1 u.2.1 u.2.2.1 u.2.2.2
    · exact splus_pinf l a B w ha hS h0 (by omega) h2 h3 e u.1 u.2.1 u.2.2.1 u.2.2.2
  · have u := fl_upd _ hm 8 (by decide)
    rw [h1] at hmn
    rw [← hmn] at u
    have e : sumZ (l ++ [a]) = sumZ l := by rw [hsn, unK_odd (by rw [h1]; decide), Int.add_zero]
    by_cases h0 : l = []
    · exact splus_minf0 l a B w ha hS h0 (by omega) h2 h3 e u.1 u.2.1 u.2.2.1 u.2.2.2
    · exact splus_minf l a B w ha hS h0 (by omega) h2 h3 e u.1 u.2.1 u.2.2.1 u.2.2.2
  · have u := fl_upd _ hm 1 (by decide)
    rw [h1] at hmn
    rw [← hmn] at u
    have e : sumZ (l ++ [a]) = sumZ l := by rw [hsn, unK_odd (by rw [h1]; decide), Int.add_zero]
    have hc9 : (((a : Nat) : Int) != 2147483648) = false := by rw [h3]; rfl
    by_cases h0 : l = []
    · exact splus_zero0 l a B w true (-149) false hc9 ha hS h0 (by omega) h2 e u.1 u.2.1 u.2.2.1 u.2.2.2
    · exact splus_zero l a B w true (-149) false hc9 ha hS h0 (by omega) h2 e u.1 u.2.1 u.2.2.1 u.2.2.2
  · have u := fl_upd _ hm 2 (by decide)
    have hfin := kind_fin ha h1
    have hV := Val.sample ha hfin
    have hk : unK a = unZ a := unK_fin h1
    rw [h1] at hmn
    rw [← hmn] at u
    rw [hk] at hsn
    by_cases hs0 : szS a = 0
    · have e : sumZ (l ++ [a]) = sumZ l := by
        rw [hsn, hV.zero.1 hs0, Int.add_zero]
      have hc9 : (((a : Nat) : Int) != 2147483648) = true := by rw [bne_iff_ne]; omega
      rw [hs0] at h2
      by_cases h0 : l = []
      · exact splus_zero0 l a B w _ _ true hc9 ha hS h0 (by omega) h2 e u.1 u.2.1 u.2.2.1 u.2.2.2
      · exact splus_zero l a B w _ _ true hc9 ha hS h0 (by omega) h2 e u.1 u.2.1 u.2.2.1 u.2.2.2
    · have hy : 2 * (unZ a).natAbs < m64 ^ 5 := by
        have h4 := unZ_le hfin
        have h5 := cap_m (n := 1) (by decide)
        rw [Nat.one_mul] at h5
        omega
      by_cases h0 : l = []
      · exact splus_fin0 l a B w _ _ _ hs0 _ hV hsn hz hy ha hS h0 (by omega) h2 h3 u.1 u.2.1 u.2.2.1 u.2.2.2
      · exact splus_fin l a B w _ _ _ hs0 _ hV hsn hz hy ha hS h0 (by omega) h2 h3 u.1 u.2.1 u.2.2.1 u.2.2.2
theorem sat_nil (w : World) : SAt (w.alloc (.cells #[.int .i64 0, .bool false, .slice none 0 0, .int .i64 0, .bool false, .int .i64 0, .bool false, .bool false, .bool false, .bool false] 101)) w.heap.size [] :=
  ⟨0, false, none, 0, 0, 0, false, ⟨⟨by simp [go_sem], by simp [go_sem], by simp [go_sem], by simp [go_sem], by simp [go_sem]⟩, by simp [go_sem], by simp [go_sem]; decide, by simp [go_sem]; decide, by simp [go_sem]; decide, by simp [go_sem]; decide, fun j => by simp [go_sem], by simp [go_sem]⟩, fun h => absurd rfl h⟩
set_option maxHeartbeats 2000000 in
theorem sof_any (v : Value) (S : List Nat) (w : World) (hv : USl w v S) (hn : S.length ≤ 1000000) (hb : ∀ i, S.getD i 0 < 4294967296) :
    Calls Tryd.prog 46 #[v] w fun e w' => e = .returned (.pointer (some ⟨w.heap.size, 0, none⟩)) ∧ SAt w' w.heap.size S ∧ Q w w' := by
  obtain ⟨a, c, rfl⟩ := hv.form
  have HV : Hid (USl w (.slice a S.length c) S) := hv
  have HB : Hid (∀ i, S.getD i 0 < 4294967296) := hb
  clear hv hb
  go_enter Tryd.func46, Tryd.ntmps46
  go_wp2_with fail
  have HS : Hid (SAt _ w.heap.size []) := sat_nil w
  have HQ : Hid (Q w (w.alloc (.cells #[.int .i64 0, .bool false, .slice none 0 0, .int .i64 0, .bool false, .int .i64 0, .bool false, .bool false, .bool false, .bool false] 101))) := (Q.refl w).cells _ _
  generalize w.alloc (.cells #[.int .i64 0, .bool false, .slice none 0 0, .int .i64 0, .bool false, .int .i64 0, .bool false, .bool false, .bool false, .bool false] 101) = y at *
  go_loopg [4] (S.length) (fun gh s4 wr => ∃ i : Nat, s4 = .int .i64 (i : Int) ∧ i ≤ S.length ∧ gh = S.length - i ∧ Hid (SAt wr w.heap.size (S.take i)) ∧ Hid (Q w wr))
  case atStart => exact ⟨0, rfl, by omega, rfl, HS.out, HQ.out⟩
  case round =>
    obtain ⟨i, rfl, hi, rfl, HR, HQr⟩ := hrel
    by_cases hlt : i < S.length
    · obtain ⟨g, o, cap', hsl, hcap, hI⟩ := HV.out.some (by omega)
      injection hsl with hs1 hs2 hs3
      subst hs1 hs3
      clear hs2
      have hc := HQr.out.cell (hI i hlt)
      have hx := HB.out i
      have HT : Hid (S.take (i + 1) = S.take i ++ [S.getD i 0]) := take_snoc hlt
      have HL : Hid ((S.take i).length ≤ 1000000) := by show (S.take i).length ≤ 1000000; rw [List.length_take]; omega
      have HM : Hid (∀ s ∈ S.take i, s < 4294967296) := fun s hs => by
        obtain ⟨j, hj, rfl⟩ := List.getElem_of_mem (List.mem_of_mem_take hs)
        have := HB.out j
        rw [List.getD_eq_getElem?_getD, List.getElem?_eq_getElem hj] at this
        exact this
      generalize S.getD i 0 = x at *
      clear hI
      go_wp2_with fail
      refine (splus_any (S.take i) x w.heap.size _ hx HR.out HL.out HM.out).mono ?_
      rintro e w1 ⟨rfl, h1, h2⟩
      have HR1 : Hid (SAt w1 w.heap.size (S.take (i + 1))) := by
        show SAt w1 w.heap.size (S.take (i + 1))
        rw [HT.out]; exact h1
      have HQ1 : Hid (Q w w1) := h2.q HQr.out (Nat.le_refl _)
      clear h1 h2 hc
      go_wp2_with fail
      go_roundg (S.length - (i + 1))
      case measure => go_light; omega
      case rel => go_light; exact ⟨i + 1, by simp, by omega, rfl, HR1, HQ1⟩
    · obtain rfl : i = S.length := by omega
      have hge : ¬ (S.length : Int) < (S.length : Int) := by omega
      have HR1 : Hid (SAt wr w.heap.size S) := by
        have := HR.out
        rw [List.take_of_length_le (Nat.le_refl _)] at this
        exact this
      clear HR
      go_wp2_with fail
      go_ret
      exact ⟨rfl, HR1.out, HQr.out⟩
end Go.Proofs.YtjjjgdpgfndbdaaDoor
/- The document's exact sums: what they tell. -/
namespace Go.Proofs.YtjjjgdpgfndbdaaDoor
open Go.RowKit
set_option linter.unusedVariables false
set_option linter.unusedSimpArgs false

/-- What is told of a sum that isn't finite. -/
def spcV (m : Nat) : Nat := if m < 4 then 0 else if m < 8 then 2139095040 else if m < 12 then 4286578688 else 2143289344
theorem fl_cases : ∀ m, m < 32 → (m < 4 → fl6 m = false ∧ fl7 m = false ∧ fl8 m = false) ∧ (4 ≤ m → m < 8 → fl6 m = false ∧ fl7 m = true ∧ fl8 m = false) ∧ (8 ≤ m → m < 12 → fl6 m = false ∧ fl7 m = false ∧ fl8 m = true) ∧ (12 ≤ m → m < 16 → fl6 m = false ∧ fl7 m = true ∧ fl8 m = true) ∧ (16 ≤ m → fl6 m = true) := fun m hm =>
  ⟨fun h => ⟨decide_eq_false (by omega), decide_eq_false (by omega), decide_eq_false (by omega)⟩, fun h h' => ⟨decide_eq_false (by omega), decide_eq_true (by omega), decide_eq_false (by omega)⟩, fun h h' => ⟨decide_eq_false (by omega), decide_eq_false (by omega), decide_eq_true (by omega)⟩, fun h h' => ⟨decide_eq_false (by omega), decide_eq_true (by omega), decide_eq_true (by omega)⟩, fun h => decide_eq_true h⟩
set_option maxHeartbeats 1000000 in
theorem special_any (l : List Nat) (B : Nat) (w : World) (hS : SAt w B l) : Calls Tryd.prog 74 #[.pointer (some ⟨B, 0, none⟩)] w fun e w' => e = .returned (.tuple #[.int .u32 (spcV (metV l) : Nat), .bool (decide (4 ≤ metV l))]) ∧ w' = w := by
  obtain ⟨k, s, p, L, C, e, m, h1, h2⟩ := hS
  have d6 := h1.c6
  have d7 := h1.c7
  have d8 := h1.c8
  obtain ⟨f1, f2, f3, f4, f5⟩ := fl_cases _ (metV_lt l)
  clear h1 h2
  generalize metV l = t at *
  by_cases c1 : t < 4
  · obtain ⟨g1, g2, g3⟩ := f1 c1
    rw [g1] at d6
    rw [g2] at d7
    rw [g3] at d8
    rw [decide_eq_false (by omega), show spcV t = 0 from if_pos c1]
    clear f1 f2 f3 f4 f5 g1 g2 g3 c1
    go_enter Tryd.func74, Tryd.ntmps74
    go_wp2_with fail
    go_ret2
    exact ⟨rfl, rfl⟩
  · rw [decide_eq_true (by omega)]
    by_cases c2 : t < 8
    · obtain ⟨g1, g2, g3⟩ := f2 (by omega) c2
      rw [g1] at d6
      rw [g2] at d7
      rw [g3] at d8
      rw [show spcV t = 2139095040 by unfold spcV; rw [if_neg c1, if_pos c2]]
      clear f1 f2 f3 f4 f5 g1 g2 g3 c1 c2
      go_enter Tryd.func74, Tryd.ntmps74
      go_wp2_with fail
      go_ret2
      exact ⟨rfl, rfl⟩
    · by_cases c3 : t < 12
      · obtain ⟨g1, g2, g3⟩ := f3 (by omega) c3
        rw [g1] at d6
        rw [g2] at d7
        rw [g3] at d8
        rw [show spcV t = 4286578688 by unfold spcV; rw [if_neg c1, if_neg c2, if_pos c3]]
        clear f1 f2 f3 f4 f5 g1 g2 g3 c1 c2 c3
        go_enter Tryd.func74, Tryd.ntmps74
        go_wp2_with fail
        go_ret2
        exact ⟨rfl, rfl⟩
      · rw [show spcV t = 2143289344 by unfold spcV; rw [if_neg c1, if_neg c2, if_neg c3]]
        by_cases c4 : t < 16
        · obtain ⟨g1, g2, g3⟩ := f4 (by omega) c4
          rw [g1] at d6
          rw [g2] at d7
          rw [g3] at d8
          clear f1 f2 f3 f4 f5 g1 g2 g3 c1 c2 c3 c4
          go_enter Tryd.func74, Tryd.ntmps74
          go_wp2_with fail
          go_ret2
          exact ⟨rfl, rfl⟩
        · have g1 := f5 (by omega)
          rw [g1] at d6
          clear f1 f2 f3 f4 f5 g1 c1 c2 c3 c4 d7 d8
          go_enter Tryd.func74, Tryd.ntmps74
          go_wp2_with fail
          go_ret2
          exact ⟨rfl, rfl⟩
theorem kind_pos (s : Nat) : 1 ≤ kindV s := by
  unfold kindV
  split
  · decide
  · split
    · decide
    · split
      · decide
      · split <;> decide
theorem metV_pos {l : List Nat} (h : l ≠ []) : 1 ≤ metV l := by
  rw [← List.dropLast_concat_getLast h, metV_snoc]
  exact Nat.le_trans (kind_pos _) Nat.right_le_or
theorem sumV_spc {l : List Nat} (h : ¬ metV l < 4) (d : Nat) : sumV l d = spcV (metV l) := by
  unfold sumV spcV
  rw [if_neg h, if_neg h]
  split
  · rfl
  · split
    · rw [if_pos (by omega)]
    · rw [if_neg (by omega)]
theorem sumV_fin {l : List Nat} (h : metV l < 4) (d : Nat) : sumV l d = if sumZ l ≠ 0 then exV (sumZ l) d else if metV l = 1 then 2147483648 else 0 := if_pos h
set_option maxHeartbeats 4000000 in
theorem told_any (l : List Nat) (B : Nat) (w : World) (hS : SAt w B l) (hz : 2 * (sumZ l).natAbs < m64 ^ 5) (hn : l.length ≤ 1000000) : Calls Tryd.prog 47 #[.pointer (some ⟨B, 0, none⟩)] w fun e w' => e = .returned (.int .u32 (sumV l 1 : Nat)) ∧ Q w w' := by
  have HP : Hid _ := special_any l B w hS
  obtain ⟨k, s, p, L, C, e, m, h1, h2⟩ := hS
  have d5 := h1.n
  have d9 := h1.c9
  have c0 := h1.b.c0
  have c1 := h1.b.c1
  have c2 := h1.b.c2
  have c3 := h1.b.c3
  have c4 := h1.b.c4
  by_cases hm : metV l < 4
  · have HV : Hid _ := sumV_fin hm 1
    rw [decide_eq_false (show ¬ 4 ≤ metV l by omega), show spcV (metV l) = 0 from if_pos hm] at HP
    by_cases h0 : l = []
    · have hb0 : ((l.length : Int) == 0) = true := by rw [h0]; rfl
      have HR : Hid (sumV l 1 = 0) := by show sumV l 1 = 0; rw [h0]; decide +kernel
      clear h1 h2 hm HV h0 hz
      go_enter Tryd.func47, Tryd.ntmps47
      go_wp2_with fail
      refine Calls.mono HP.out ?_
      rintro e1 w1 ⟨rfl, rfl⟩
      go_wp2_with fail
      go_ret
      exact ⟨by rw [HR.out]; rfl, Q.refl _⟩
    · have hb0 : ((l.length : Int) == 0) = false := by
        rw [beq_eq_false_iff_ne]
        have : l.length ≠ 0 := fun g => h0 (List.eq_nil_of_length_eq_zero g)
        omega
      obtain ⟨n, hn1, hv1⟩ := h2 h0
      have HN : Hid (NumAt w (num5 k s p L C e m) (.fin s n e false)) := hn1
      have hpos := metV_pos h0
      by_cases hz0 : sumZ l = 0
      · have hn0 : n = 0 := hv1.zero.2 hz0
        by_cases hp : metV l = 1
        · have HR : Hid (sumV l 1 = 2147483648) := by show sumV l 1 = _; rw [HV.out, if_neg (fun h => h hz0), if_pos hp]
          have e9 : fl9 (metV l) = false := by rw [hp]; decide
          rw [e9] at d9
          clear h1 h2 hm HV h0 hz hn1 hv1 hpos hz0 hp e9
          go_enter Tryd.func47, Tryd.ntmps47
          go_wp2_with fail
          refine Calls.mono HP.out ?_
          rintro e1 w1 ⟨rfl, rfl⟩
          go_wp2_with fail
          refine (zero_q _ _ _ HN.out).mono ?_
          rintro e1 w2 ⟨rfl, q2⟩
          rw [zeroB_fin, decide_eq_true hn0]
          have f9 := q2.cell d9
          go_wp2_with fail
          go_ret
          exact ⟨by rw [HR.out]; rfl, q2⟩
        · have HR : Hid (sumV l 1 = 0) := by show sumV l 1 = _; rw [HV.out, if_neg (fun h => h hz0), if_neg hp]
          have e9 : fl9 (metV l) = true := by unfold fl9; exact decide_eq_true (by omega)
          rw [e9] at d9
          clear h1 h2 hm HV h0 hz hn1 hv1 hpos hz0 hp e9
          go_enter Tryd.func47, Tryd.ntmps47
          go_wp2_with fail
          refine Calls.mono HP.out ?_
          rintro e1 w1 ⟨rfl, rfl⟩
          go_wp2_with fail
          refine (zero_q _ _ _ HN.out).mono ?_
          rintro e1 w2 ⟨rfl, q2⟩
          rw [zeroB_fin, decide_eq_true hn0]
          have f9 := q2.cell d9
          go_wp2_with fail
          go_ret
          exact ⟨by rw [HR.out]; rfl, q2⟩
      · have hn0 : n ≠ 0 := fun g => hz0 (hv1.zero.1 g)
        have HR : Hid (sumV l 1 = roundR (.fin s n e false)) := by show sumV l 1 = _; rw [HV.out, if_pos hz0, hv1.told hz0]
        have HF : Hid (fits (.fin s n e false)) := by
          have h3 := hv1.small hz
          obtain ⟨h4, h5, h6⟩ := h3
          exact ⟨by omega, by omega, by omega, fun h => by cases h⟩
        have hlt : roundR (.fin s n e false) < 4294967296 := roundR_lt _
        clear h1 h2 hm HV h0 hz hn1 hv1 hpos hz0
        go_enter Tryd.func47, Tryd.ntmps47
        go_wp2_with fail
        refine Calls.mono HP.out ?_
        rintro e1 w1 ⟨rfl, rfl⟩
        go_wp2_with fail
        refine (zero_q _ _ _ HN.out).mono ?_
        rintro e1 w2 ⟨rfl, q2⟩
        rw [zeroB_fin, decide_eq_false hn0]
        have i0 := q2.cell c0
        have i1 := q2.cell c1
        have i2 := q2.cell c2
        have i3 := q2.cell c3
        have i4 := q2.cell c4
        have HQ2 : Hid (Q w1 w2) := q2
        have SF : Hid (∀ n : QW w2, Calls Tryd.prog 76 #[] n.x fun e w' => e = .returned (.agg #[.int .i64 23, .int .i64 8]) ∧ Q n.x w') := fun n => f32_any n.x
        have SR : Hid (∀ u : QW w2, Calls Tryd.prog 50 #[.agg #[.int .i64 23, .int .i64 8], .agg #[.int .i64 k, .bool s, .slice p L C, .int .i64 e, .bool m]] u.x fun e1 w' => e1 = .returned (.int .u64 (roundR (.fin s n e false) : Int)) ∧ Q u.x w') := fun u => round32_any _ _ u.x (u.q.num (HQ2.out.num HN.out)) HF.out
        generalize roundR (.fin s n e false) = V at *
        have ew : IntKind.u32.wrap (V : Int) = (V : Int) := by rw [IntKind.wrap_u32]; omega
        clear q2 c0 c1 c2 c3 c4
        have j0 := qw_cell i0
        have j1 := qw_cell i1
        have j2 := qw_cell i2
        have j3 := qw_cell i3
        have j4 := qw_cell i4
        have n0 := qw_some w2
        go_wp2_with fail
        refine wp_region_quiet_Q (by kernel_rfl) (by kernel_rfl) ?_
        repeat (first | go_big_quiet_step (first | (go_at_call 76; exact calls_qw (SF.out _)) | (go_at_call 50; exact calls_qw (SR.out _))) | quiet_step (first | (go_at_call 76; exact calls_qw (SF.out _)) | (go_at_call 50; exact calls_qw (SR.out _))))
        refine wpQuiet_nil ?_
        intro w4 hw'
        have hq4 := qw_out hw'
        clear hw' n0 j0 j1 j2 j3 j4
        go_wp2_with fail
        go_ret
        exact ⟨by rw [HR.out]; rfl, HQ2.out.trans hq4⟩
  · have HR : Hid (sumV l 1 = spcV (metV l)) := sumV_spc hm 1
    rw [decide_eq_true (show 4 ≤ metV l by omega)] at HP
    generalize spcV (metV l) = V at *
    clear h1 h2 hm hz
    go_enter Tryd.func47, Tryd.ntmps47
    go_wp2_with fail
    refine Calls.mono HP.out ?_
    rintro e1 w1 ⟨rfl, rfl⟩
    go_wp2_with fail
    go_ret
    exact ⟨by rw [HR.out]; rfl, Q.refl _⟩
end Go.Proofs.YtjjjgdpgfndbdaaDoor
/- The statement SumsExact: its walk. -/
namespace Go.Proofs.YtjjjgdpgfndbdaaDoor
open Go.RowKit
set_option linter.unusedVariables false
set_option linter.unusedSimpArgs false

theorem mem_lt {S : List Nat} (h : ∀ i, S.getD i 0 < 4294967296) : ∀ s ∈ S, s < 4294967296 := fun s hs => by
  obtain ⟨i, hi, rfl⟩ := List.getElem_of_mem hs
  have := h i
  rw [List.getD_eq_getElem?_getD, List.getElem?_eq_getElem hi] at this
  exact this
set_option maxHeartbeats 400000 in
theorem rexact_any (v : Value) (S : List Nat) (w : World) (hv : USl w v S) (hn : S.length ≤ 1000000) (hb : ∀ i, S.getD i 0 < 4294967296) :
    Calls Tryd.prog 21 #[v] w fun e w' => e = .returned (.int .u32 (sumV S 1 : Nat)) ∧ Q w w' := by
  have HZ : Hid (2 * (sumZ S).natAbs < m64 ^ 5) := sumZ_fits (mem_lt hb) (by omega)
  go_enter Tryd.func21, Tryd.ntmps21
  go_wp2_with fail
  refine (sof_any v S _ hv hn hb).mono ?_
  rintro e w1 ⟨rfl, hS, q1⟩
  go_wp2_with fail
  refine (told_any S w.heap.size _ hS HZ.out hn).mono ?_
  rintro e w2 ⟨rfl, q2⟩
  go_wp2_with fail
  go_ret
  exact ⟨rfl, q1.trans q2⟩
set_option maxHeartbeats 2000000 in
theorem exact_walk (v : Value) (S : List Nat) (w : World) (hv : USl w v S) (hb : ∀ i, S.getD i 0 < 4294967296) (hn : S.length ≤ 9223372036854775807) (hT : Tab w) : Calls Tryd.prog 6 #[v] w fun e w' => e = .returned (.bool true) ∧ Q w w' := by
  obtain ⟨a, c, rfl⟩ := hv.form
  have HV : Hid (USl w (.slice a S.length c) S) := hv
  have HT : Hid (Tab w) := hT
  have HB : Hid (∀ i, S.getD i 0 < 4294967296) := hb
  clear hv hT hb
  by_cases hm : 2000 < S.length
  · have hm' : (2000 : Int) < S.length := by omega
    clear hm
    go_enter Tryd.func6, Tryd.ntmps6
    go_wp2_with fail
    refine (known_any _ HT.out).mono ?_
    rintro e w1 ⟨rfl, q1⟩
    go_wp2_with fail
    go_ret
    exact ⟨rfl, q1⟩
  · have hm' : ¬ (2000 : Int) < S.length := by omega
    go_enter Tryd.func6, Tryd.ntmps6
    go_wp2_with fail
    refine (known_any _ HT.out).mono ?_
    rintro e w1 ⟨rfl, q1⟩
    have HQ1 : Hid (Q w w1) := q1
    clear q1
    go_wp2_with fail
    refine (lent_any _ S _ (HV.out.next HQ1.out) (by omega)).mono ?_
    rintro e w2 ⟨rfl, hL, q2⟩
    have HL : Hid (Lent w2 w1.heap.size S) := hL
    have HQ2 : Hid (Q w w2) := HQ1.out.trans q2
    clear hL q2 HQ1
    generalize w1.heap.size = g at *
    unfold lentV
    go_wp2_with fail
    refine (exact_any _ S _ HL.out.usl (fun g' o cap e => by injection e with e; injection e with e; injection e with e; have := HL.out.l; omega) HB.out (by omega) (HQ2.out.tab HT.out)).mono ?_
    rintro e w3 ⟨rfl, q3⟩
    have HL3 : Hid (Lent w3 g S) := HL.out.next q3
    have HQ3 : Hid (Q w w3) := HQ2.out.trans q3
    clear HL HQ2 q3
    go_wp2_with fail
    refine (rexact_any _ S _ (HV.out.next HQ3.out) (by omega) HB.out).mono ?_
    rintro e w4 ⟨rfl, q4⟩
    have HL4 : Hid (Lent w4 g S) := HL3.out.next q4
    have HQ4 : Hid (Q w w4) := HQ3.out.trans q4
    clear HL3 HQ3 q4
    generalize sumV S 1 = V1 at *
    go_wp2_with fail
    refine (stays_any g _ S _ HL4.out (HV.out.next HQ4.out) (by omega)).mono ?_
    rintro e w7 ⟨rfl, q7⟩
    go_wp2_with fail
    go_ret
    exact ⟨rfl, HQ4.out.trans q7⟩
end Go.Proofs.YtjjjgdpgfndbdaaDoor
