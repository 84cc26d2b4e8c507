/- What a piece of a curve answers. -/
import Derived.Test.YtfolecnjaaakeaaCurvB
import Derived.Test.YtfolecnjaaakeaaQReg
namespace Go.Proofs.Ytfolecnjaaakeaa
open Go.RowKit

set_option maxHeartbeats 400000 in
theorem wide_any (a : Nat) (ha : a < 4294967296) (w : World) : Calls Try.prog 55 #[.int .u32 (a : Int)] w fun e w' => e = .returned (.float .f64 (wideW a)) ∧ Q w w' := by
  have l1 := f64from
  go_enter Try.func55, Try.ntmps55
  go_wp2_with fail
  refine (cwide_any a ha _).mono ?_
  rintro e w1 ⟨rfl, q1⟩
  go_wp2_with fail
  go_ret
  exact ⟨rfl, q1⟩

def clipV (p q y : Nat) : Nat := if lessB y p = true then p else if lessB q y = true then q else y
theorem clip_1 {p q y : Nat} (h : lessB y p = true) : clipV p q y = p := by unfold clipV; rw [if_pos h]
theorem clip_2 {p q y : Nat} (h : lessB y p = false) (h2 : lessB q y = true) : clipV p q y = q := by unfold clipV; rw [h, h2]; rfl
theorem clip_3 {p q y : Nat} (h : lessB y p = false) (h2 : lessB q y = false) : clipV p q y = y := by unfold clipV; rw [h, h2]; rfl

set_option maxHeartbeats 2000000 in
theorem within_slope (px py qx qy x A H D S T V : Nat) (ha : px < 4294967296) (hb : py < 4294967296) (hc : qx < 4294967296) (hd : qy < 4294967296) (hx : x < 4294967296) (he : equalB py qy = false)
    (hA : floatBits .sub .f64 (wideW x) (wideW px) = some A) (hH : floatBits .sub .f64 (wideW qy) (wideW py) = some H) (hD : floatBits .sub .f64 (wideW qx) (wideW px) = some D)
    (hS : floatBits .quo .f64 H D = some S) (hT : floatBits .mul .f64 A S = some T) (hV : floatBits .add .f64 (wideW py) T = some V) (w : World) :
    Calls Try.prog 42 #[.agg #[.int .u32 px, .int .u32 py], .agg #[.int .u32 qx, .int .u32 qy], .int .u32 x] w fun e w' => e = .returned (.int .u32 (clipV py qy (toldD (some (Ieee.double.read V))) : Nat)) ∧ Q w w' := by
  have lA := fun w => run_float_arith (P := Try.prog) w .sub 85 .f64 _ _ _ hA
  have lH := fun w => run_float_arith (P := Try.prog) w .sub 85 .f64 _ _ _ hH
  have lD := fun w => run_float_arith (P := Try.prog) w .sub 85 .f64 _ _ _ hD
  have lS := fun w => run_float_arith (P := Try.prog) w .quo 85 .f64 _ _ _ hS
  have lT := fun w => run_float_arith (P := Try.prog) w .mul 85 .f64 _ _ _ hT
  have lV := fun w => run_float_arith (P := Try.prog) w .add 85 .f64 _ _ _ hV
  have l0 := same64
  have l1 := f64bits
  obtain ⟨Y, hY⟩ : ∃ Y, Y = toldD (some (Ieee.double.read V)) := ⟨_, rfl⟩
  rw [← hY]
  have HY : Hid (toldD (some (Ieee.double.read V)) = Y) := hY.symm
  clear hA hH hD hS hT hV hY
  go_enter Try.func42, Try.ntmps42
  go_wp2_with fail
  refine (equal_any py qy _).mono ?_
  rintro e w1 ⟨rfl, rfl⟩
  go_wp2_with fail
  generalize hW : ((w.alloc _).alloc _) = W
  have hQ : Q w W := by rw [← hW]; exact ((Q.refl w).cells _ _).cells _ _
  have c0 : W.cell? ⟨w.heap.size, 0, none⟩ = some (.int .u32 px) := by rw [← hW]; simp [go_sem]
  have c1 : W.cell? ⟨w.heap.size, 1, none⟩ = some (.int .u32 py) := by rw [← hW]; simp [go_sem]
  have c2 : W.cell? ⟨w.heap.size + 1, 0, none⟩ = some (.int .u32 qx) := by rw [← hW]; simp [go_sem]
  have c3 : W.cell? ⟨w.heap.size + 1, 1, none⟩ = some (.int .u32 qy) := by rw [← hW]; simp [go_sem]
  clear hW
  have n0 := qw_some W
  have d0 := qw_cell c0
  refine wp_region_quiet_Q (by kernel_rfl) (by kernel_rfl) ?_
  repeat (quiet_step (first | (go_at_call 55; exact calls_qw (wide_any x hx _)) | (go_at_call 55; exact calls_qw (wide_any px ha _))))
  refine wpQuiet_nil ?_
  intro W2 hw'
  have hq2 := qw_out hw'
  clear hw'
  replace c0 := hq2.cell c0
  replace c1 := hq2.cell c1
  replace c2 := hq2.cell c2
  replace c3 := hq2.cell c3
  replace hQ := hQ.trans hq2
  clear hq2 d0 n0
  go_wp2_with fail
  have n0 := qw_some W2
  have d0 := qw_cell c0
  have d1 := qw_cell c1
  have d2 := qw_cell c2
  have d3 := qw_cell c3
  refine wp_region_quiet_Q (by kernel_rfl) (by kernel_rfl) ?_
  repeat (quiet_step (first | (go_at_call 55; exact calls_qw (wide_any qy hd _)) | (go_at_call 55; exact calls_qw (wide_any py hb _)) | (go_at_call 55; exact calls_qw (wide_any qx hc _)) | (go_at_call 55; exact calls_qw (wide_any px ha _))))
  refine wpQuiet_nil ?_
  intro W3 hw'
  have hq2 := qw_out hw'
  clear hw'
  replace c1 := hq2.cell c1
  replace c3 := hq2.cell c3
  replace hQ := hQ.trans hq2
  clear hq2 d0 d1 d2 d3 n0 c0 c2
  go_wp2_with fail
  refine (wide_any py hb _).mono ?_
  rintro e w1 ⟨rfl, q1⟩
  replace c1 := q1.cell c1
  replace c3 := q1.cell c3
  replace hQ := hQ.trans q1
  clear q1
  go_wp2_with fail
  refine (cnarrow_any V _).mono ?_
  rintro e w2 ⟨rfl, q2⟩
  rw [HY.out]
  replace c1 := q2.cell c1
  replace c3 := q2.cell c3
  replace hQ := hQ.trans q2
  clear q2
  go_wp2_with fail
  refine (less_any Y py _).mono ?_
  rintro e w3 ⟨rfl, rfl⟩
  cases h1 : lessB Y py
  · go_wp2_with fail
    refine (less_any qy Y _).mono ?_
    rintro e w4 ⟨rfl, rfl⟩
    cases h2 : lessB qy Y
    · go_wp2_with fail
      go_ret
      exact ⟨ret_int (by rw [clip_3 h1 h2]), hQ⟩
    · go_wp2_with fail
      go_ret
      exact ⟨ret_int (by rw [clip_2 h1 h2]), hQ⟩
  · go_wp2_with fail
    go_ret
    exact ⟨ret_int (by rw [clip_1 h1]), hQ⟩

set_option maxHeartbeats 400000 in
theorem within_flat (px py qx qy x : Nat) (he : equalB py qy = true) (w : World) :
    Calls Try.prog 42 #[.agg #[.int .u32 px, .int .u32 py], .agg #[.int .u32 qx, .int .u32 qy], .int .u32 x] w fun e w' => e = .returned (.int .u32 py) ∧ Q w w' := by
  go_enter Try.func42, Try.ntmps42
  go_wp2_with fail
  refine (equal_any py qy _).mono ?_
  rintro e w1 ⟨rfl, rfl⟩
  go_wp2_with fail
  go_ret
  exact ⟨rfl, ((Q.refl w).cells _ _).cells _ _⟩
end Go.Proofs.Ytfolecnjaaakeaa
