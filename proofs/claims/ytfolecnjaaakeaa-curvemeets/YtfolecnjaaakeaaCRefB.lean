/- The document's curves: between two knots; whether knots may be; At. -/
import Derived.Test.YtfolecnjaaakeaaCRefA
namespace Go.Proofs.Ytfolecnjaaakeaa
open Go.RowKit
set_option linter.unusedVariables false

set_option maxHeartbeats 2000000 in
theorem rbetween_slope (px py qx qy x A H D S T V : Nat) (ha : px < 4294967296) (hb : py < 4294967296) (hc : qx < 4294967296) (hd : qy < 4294967296) (hx : x < 4294967296) (he : equalB py qy = false)
    (na : nanN px = false) (nb : nanN py = false) (nc : nanN qx = false) (nd : nanN qy = false) (nx : nanN x = false)
    (hA : floatBits .sub .f64 (wideN x) (wideN px) = some A) (hH : floatBits .sub .f64 (wideN qy) (wideN py) = some H) (hD : floatBits .sub .f64 (wideN qx) (wideN px) = some D)
    (hS : floatBits .quo .f64 H D = some S) (hT : floatBits .mul .f64 A S = some T) (hV : floatBits .add .f64 (wideN py) T = some V) (hr : rung64 V < 5183643170835005440) (w : World) :
    Calls Try.prog 45 #[.agg #[.int .u32 px, .int .u32 py], .agg #[.int .u32 qx, .int .u32 qy], .int .u32 x] w fun e w' => e = .returned (.int .u32 (clipV py qy (toldD (some (Ieee.double.read V))) : Nat)) ∧ Q w w' := by
  have lA := fun w => run_float_arith (P := Try.prog) w .sub 85 .f64 _ _ _ hA
  have lH := fun w => run_float_arith (P := Try.prog) w .sub 85 .f64 _ _ _ hH
  have lD := fun w => run_float_arith (P := Try.prog) w .sub 85 .f64 _ _ _ hD
  have lS := fun w => run_float_arith (P := Try.prog) w .quo 85 .f64 _ _ _ hS
  have lT := fun w => run_float_arith (P := Try.prog) w .mul 85 .f64 _ _ _ hT
  have lV := fun w => run_float_arith (P := Try.prog) w .add 85 .f64 _ _ _ hV
  have lN := fun w => run_convert_float_float (P := Try.prog) w 85 65 .f64 .f32 V _ (by kernel_rfl) Try.underlying65 (nar_conv hr)
  have l0 := same64
  have l1 := f32bits
  have hn : (Ieee.double.read V).isNaN = false := by rw [read_fin64 (by omega)]; rfl
  rw [toldD_some hn]
  obtain ⟨Y, hY⟩ : ∃ Y, Y = Ieee.single.write (Ieee.double.read V) := ⟨_, rfl⟩
  have hYl : Y < 4294967296 := by rw [hY]; exact write32_lt _
  rw [← hY] at lN ⊢
  clear hA hH hD hS hT hV hY hn hr
  go_enter Try.func45, Try.ntmps45
  go_wp2_with fail
  refine (rsame_any py qy hb hd _).mono ?_
  rintro e w1 ⟨rfl, rfl⟩
  go_wp2_with fail
  generalize hW : ((w.alloc _).alloc _) = W
  have hQ : Q w W := by rw [← hW]; exact ((Q.refl w).cells _ _).cells _ _
  have c0 : W.cell? ⟨w.heap.size, 0, none⟩ = some (.int .u32 px) := by rw [← hW]; simp [go_sem]
  have c1 : W.cell? ⟨w.heap.size, 1, none⟩ = some (.int .u32 py) := by rw [← hW]; simp [go_sem]
  have c2 : W.cell? ⟨w.heap.size + 1, 0, none⟩ = some (.int .u32 qx) := by rw [← hW]; simp [go_sem]
  have c3 : W.cell? ⟨w.heap.size + 1, 1, none⟩ = some (.int .u32 qy) := by rw [← hW]; simp [go_sem]
  clear hW
  have n0 := qw_some W
  have d0 := qw_cell c0
  refine wp_region_quiet_Q (by kernel_rfl) (by kernel_rfl) ?_
  repeat (quiet_step (first | (go_at_call 58; exact calls_qs (rvalue_any x nx _)) | (go_at_call 58; exact calls_qs (rvalue_any px na _))))
  refine wpQuiet_nil ?_
  intro W2 hw'
  have hq2 := qw_out hw'
  clear hw'
  replace c0 := hq2.cell c0
  replace c1 := hq2.cell c1
  replace c2 := hq2.cell c2
  replace c3 := hq2.cell c3
  replace hQ := hQ.trans hq2
  clear hq2 d0 n0
  go_wp2_with fail
  have n0 := qw_some W2
  have d0 := qw_cell c0
  have d1 := qw_cell c1
  have d2 := qw_cell c2
  have d3 := qw_cell c3
  refine wp_region_quiet_Q (by kernel_rfl) (by kernel_rfl) ?_
  repeat (quiet_step (first | (go_at_call 58; exact calls_qs (rvalue_any qy nd _)) | (go_at_call 58; exact calls_qs (rvalue_any py nb _)) | (go_at_call 58; exact calls_qs (rvalue_any qx nc _)) | (go_at_call 58; exact calls_qs (rvalue_any px na _))))
  refine wpQuiet_nil ?_
  intro W3 hw'
  have hq2 := qw_out hw'
  clear hw'
  replace c1 := hq2.cell c1
  replace c3 := hq2.cell c3
  replace hQ := hQ.trans hq2
  clear hq2 d0 d1 d2 d3 n0 c0 c2
  go_wp2_with fail
  refine (rvalue_any py nb _).mono ?_
  rintro e w1 ⟨rfl, rfl⟩
  go_wp2_with fail
  refine (rbelow_any Y py hYl hb _).mono ?_
  rintro e w3 ⟨rfl, rfl⟩
  cases h1 : lessB Y py
  · go_wp2_with fail
    refine (rbelow_any qy Y hd hYl _).mono ?_
    rintro e w4 ⟨rfl, rfl⟩
    cases h2 : lessB qy Y
    · go_wp2_with fail
      go_ret
      exact ⟨ret_int (by rw [clip_3 h1 h2]), hQ⟩
    · go_wp2_with fail
      go_ret
      exact ⟨ret_int (by rw [clip_2 h1 h2]), hQ⟩
  · go_wp2_with fail
    go_ret
    exact ⟨ret_int (by rw [clip_1 h1]), hQ⟩
set_option maxHeartbeats 400000 in
theorem rbetween_flat (px py qx qy x : Nat) (hb : py < 4294967296) (hd : qy < 4294967296) (he : equalB py qy = true) (w : World) :
    Calls Try.prog 45 #[.agg #[.int .u32 px, .int .u32 py], .agg #[.int .u32 qx, .int .u32 qy], .int .u32 x] w fun e w' => e = .returned (.int .u32 py) ∧ Q w w' := by
  go_enter Try.func45, Try.ntmps45
  go_wp2_with fail
  refine (rsame_any py qy hb hd _).mono ?_
  rintro e w1 ⟨rfl, rfl⟩
  go_wp2_with fail
  go_ret
  exact ⟨rfl, ((Q.refl w).cells _ _).cells _ _⟩
theorem rbetween_any {px py qx qy x : Nat} (ha : px < 4294967296) (hb : py < 4294967296) (hc : qx < 4294967296) (hd : qy < 4294967296) (hx : x < 4294967296)
    (fa : rung32 px < 2139095040) (fb : rung32 py < 2139095040) (fc : rung32 qx < 2139095040) (fd : rung32 qy < 2139095040) (fx : rung32 x < 2139095040)
    (h1 : srung32 px < srung32 x) (h2 : srung32 x < srung32 qx) (h3 : srung32 py ≤ srung32 qy) (w : World) :
    Calls Try.prog 45 #[.agg #[.int .u32 px, .int .u32 py], .agg #[.int .u32 qx, .int .u32 qy], .int .u32 x] w fun e w' => e = .returned (.int .u32 (pieceV px py qx qy x : Nat)) ∧ Q w w' := by
  have he := equalB_num (fin_nan fb) (fin_nan fd)
  unfold pieceV
  by_cases g : srung32 py = srung32 qy
  · rw [decide_eq_true g] at he
    rw [if_pos he]
    exact rbetween_flat px py qx qy x hb hd he w
  · rw [decide_eq_false g] at he
    rw [if_neg (by rw [he]; decide)]
    obtain ⟨A, H, D, S, T, V, M, N, e1, e2, e3, e4, e5, e6, hr, _⟩ := piece fa fb fc fd fx ((sampleZ_lt_iff _ _).2 h1) ((sampleZ_lt_iff _ _).2 h2) ((sampleZ_lt_iff _ _).2 (by omega)) rfl
    rw [pieceB_eq e1 e2 e3 e4 e5 e6]
    exact rbetween_slope px py qx qy x A H D S T V ha hb hc hd hx he (fin_nan fa) (fin_nan fb) (fin_nan fc) (fin_nan fd) (fin_nan fx) e1 e2 e3 e4 e5 e6 hr w

set_option maxHeartbeats 1000000 in
theorem rcheck_many (v : Value) (n cap : Nat) (a : Option Addr) (hv : v = .slice a n cap) (h : n < 2 ∨ 64 < n) (hn : n ≤ 4611686018427387904) (w : World) :
    Calls Try.prog 22 #[v] w fun e w' => e = .returned (.int .i64 40) ∧ w' = w := by
  subst hv
  rcases h with h | h
  · have h1 : (n : Int) < 2 := by omega
    go_enter Try.func22, Try.ntmps22
    go_wp2_with fail
    go_ret
    exact ⟨rfl, rfl⟩
  · have h1 : ¬ (n : Int) < 2 := by omega
    have h2 : (64 : Int) < (n : Int) := by omega
    have h3 : decide ((n : Int) < 2) = false := decide_eq_false h1
    go_enter Try.func22, Try.ntmps22
    go_wp2_with fail
    go_ret
    exact ⟨rfl, rfl⟩

end Go.Proofs.Ytfolecnjaaakeaa
