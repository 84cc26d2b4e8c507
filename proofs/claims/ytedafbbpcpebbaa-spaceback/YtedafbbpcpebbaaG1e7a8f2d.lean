/- YCC: what ToYCC and FromYCC return. -/
import Derived.Test.YtedafbbpcpebbaaG62286c95
import Derived.Test.YtedafbbpcpebbaaG402615fe
namespace Go.Proofs.Ytedafbbpcpebbaa
open Go.RowKit
set_option linter.unusedVariables false

abbrev isA (op : BinOp) : Prop := op = .add ∨ op = .sub ∨ op = .mul ∨ op = .quo
def opT (op : BinOp) (x y : Nat) : Nat := told64 (opD op (Ieee.double.read x) (Ieee.double.read y))
theorem opD_nan1 {op : BinOp} (hop : isA op) {a : Ieee.Datum} (h : a.isNaN = true) (b : Ieee.Datum) : told64 (opD op a b) = 9221120237041090560 := by
  obtain ⟨s, t, rfl⟩ := isNaN_cases h
  rcases hop with rfl | rfl | rfl | rfl <;> cases b <;> rfl
theorem opD_nan2 {op : BinOp} (hop : isA op) {b : Ieee.Datum} (h : b.isNaN = true) (a : Ieee.Datum) : told64 (opD op a b) = 9221120237041090560 := by
  obtain ⟨s, t, rfl⟩ := isNaN_cases h
  rcases hop with rfl | rfl | rfl | rfl <;> cases a <;> rfl
theorem can_cases (x : Nat) : canW x = x ∨ ((Ieee.double.read x).isNaN = true ∧ (Ieee.double.read (canW x)).isNaN = true) := by
  unfold canW
  cases h : nan64 x
  · left; rfl
  · right; rw [if_pos rfl]; exact ⟨read64_nan h, read64_nan made64⟩
theorem opT_can {op : BinOp} (hop : isA op) (x y : Nat) : opT op (canW x) (canW y) = opT op x y := by
  unfold opT
  rcases can_cases x with h | ⟨h, g⟩
  · rw [h]
    rcases can_cases y with h | ⟨h, g⟩
    · rw [h]
    · rw [opD_nan2 hop h, opD_nan2 hop g]
  · rw [opD_nan1 hop h, opD_nan1 hop g]
theorem res_can {op : BinOp} (hop : isA op) {x y X Y : Nat} {w : World} (hx : canW x = X) (hy : canW y = Y) : canW (resW op x y w) = opT op X Y := by
  rw [can_res op hop, ← hx, ← hy, opT_can hop]; rfl
theorem narW_can (x : Nat) : narW (canW x) = narW x := by
  unfold canW
  cases h : nan64 x
  · rfl
  · rw [if_pos rfl]; unfold narW; rw [nar_nan h, nar_nan made64]
theorem narW_of {x X : Nat} (h : canW x = X) : narW x = narW X := by rw [← h, narW_can]
theorem can_wide (a : Nat) : canW (wideW a) = wideW a := by
  unfold wideW
  cases h : nanN a
  · show canW (wideN a) = wideN a
    unfold canW; rw [wideN_nan h]; rfl
  · show canW 9221120237041090560 = 9221120237041090560
    unfold canW; rw [made64]; rfl
def yS (r b : Nat) : Nat := opT .add (wideW r) (wideW b)
def yD (g : Nat) : Nat := opT .mul 4611686018427387904 (wideW g)
def ycc0 (r g b : Nat) : Nat := narW (opT .quo (opT .add (yS r b) (yD g)) 4616189618054758400)
def ycc1 (r g b : Nat) : Nat := narW (opT .quo (opT .sub (yD g) (yS r b)) 4616189618054758400)
def ycc2 (r g b : Nat) : Nat := narW (opT .quo (opT .sub (wideW r) (wideW b)) 4611686018427387904)
def rT (y cg : Nat) : Nat := opT .sub (wideW y) (wideW cg)
def rgb0 (y cg co : Nat) : Nat := narW (opT .add (rT y cg) (wideW co))
def rgb1 (y cg co : Nat) : Nat := narW (opT .add (wideW y) (wideW cg))
def rgb2 (y cg co : Nat) : Nat := narW (opT .sub (rT y cg) (wideW co))
theorem ret_a3 {a b c x y z : Nat} (h : a = x) (g : b = y) (k : c = z) : Value.agg #[.int .u32 (a : Nat), .int .u32 (b : Nat), .int .u32 (c : Nat)] = a3 x y z := by rw [h, g, k]; rfl
theorem hA1 : isA .add := Or.inl rfl
theorem hA2 : isA .sub := Or.inr (Or.inl rfl)
theorem hA3 : isA .mul := Or.inr (Or.inr (Or.inl rfl))
theorem hA4 : isA .quo := Or.inr (Or.inr (Or.inr rfl))
theorem can_2 : canW 4611686018427387904 = 4611686018427387904 := by decide +kernel
theorem can_4 : canW 4616189618054758400 = 4616189618054758400 := by decide +kernel
set_option maxHeartbeats 2000000 in
theorem yfrom_any (r g b : Nat) (hr : r < 4294967296) (hg : g < 4294967296) (hb : b < 4294967296) (w : World) : Calls Try.prog 32 #[.agg #[], .agg #[.int .u32 (r : Int), .int .u32 (g : Int), .int .u32 (b : Int)]] w fun e w' => e = .returned (a3 (ycc0 r g b) (ycc1 r g b) (ycc2 r g b)) ∧ Q w w' := by
  have l1 := fun x y w => run_res .add (by simp) 53 x y Try.prog w
  have l2 := fun x y w => run_res .sub (by simp) 53 x y Try.prog w
  have l3 := fun x y w => run_res .mul (by simp) 53 x y Try.prog w
  have l4 := fun x y w => run_res .quo (by simp) 53 x y Try.prog w
  have l5 := same7
  have KV : Hid (∀ (s : Nat) (h : s < 4294967296) (w : World), Calls Try.prog 39 #[.int .u32 s] w fun e w' => e = .returned (.float .f64 (wideW s)) ∧ Q w w') := spnum_any
  go_enter Try.func32, Try.ntmps32
  go_wp2_with fail
  have hB : Hid (B3 w _ r g b) := b3_of w 49 r g b
  generalize (((w.alloc (Obj.cells #[] 49)).alloc (Obj.cells #[.int .u32 (r : Int), .int .u32 (g : Int), .int .u32 (b : Int)] 47)).alloc (Obj.cells #[.int .u32 0, .int .u32 0, .int .u32 0] 47)) = wz at hB ⊢
  have d0 := qw_cell hB.out.d0
  have d1 := qw_cell hB.out.d1
  have d2 := qw_cell hB.out.d2
  have n0 := qw_some wz
  refine wp_region_quiet_Q (by kernel_rfl) (by kernel_rfl) ?_
  repeat (first | go_big_quiet_step (first | (go_at_call 39; exact calls_qw (KV.out _ (by assumption) _))) | quiet_step (first | (go_at_call 39; exact calls_qw (KV.out _ (by assumption) _))))
  refine wpQuiet_nil ?_
  intro w4 hw'
  have hq4 := qw_out hw'
  clear hw' d0 d1 d2 n0 KV
  replace hB : Hid (B3 w w4 r g b) := hB.out.next hq4
  clear hq4
  go_wp2_with fail
  refine (spsam_any _ _).mono ?_
  rintro e w5 ⟨rfl, q5⟩
  have Q5 : Hid (Q w4 w5) := (resU_q _ _ _ _).trans ((resU_q _ _ _ _).trans ((resU_q _ _ _ _).trans ((resU_q _ _ _ _).trans (q5))))
  clear q5
  rw [narW_of (res_can hA4 (res_can hA1 (res_can hA1 (can_wide r) (can_wide b)) (res_can hA3 can_2 (can_wide g))) can_4)]
  go_wp2_with fail
  refine (spsam_any _ _).mono ?_
  rintro e w6 ⟨rfl, q6⟩
  have Q6 : Hid (Q w5 w6) := (resU_q _ _ _ _).trans ((resU_q _ _ _ _).trans (q6))
  clear q6
  rw [narW_of (res_can hA4 (res_can hA2 (res_can hA3 can_2 (can_wide g)) (res_can hA1 (can_wide r) (can_wide b))) can_4)]
  go_wp2_with fail
  refine (spsam_any _ _).mono ?_
  rintro e w7 ⟨rfl, q7⟩
  have Q7 : Hid (Q w6 w7) := (resU_q _ _ _ _).trans ((resU_q _ _ _ _).trans (q7))
  clear q7
  rw [narW_of (res_can hA4 (res_can hA2 (can_wide r) (can_wide b)) can_2)]
  replace hB : Hid (B3 w w7 r g b) := hB.out.next ((Q5.out.trans Q6.out).trans Q7.out)
  clear Q5 Q6 Q7
  have hk0 := hB.out.k0
  have hk1 := hB.out.k1
  have hk2 := hB.out.k2
  have hf0 := hB.out.f0
  have hf1 := hB.out.f1
  have hf2 := hB.out.f2
  go_wp2_with fail
  refine bodyPost_ret (v := a3 (ycc0 r g b) (ycc1 r g b) (ycc2 r g b)) (by simp [results, Try.results32, go_sem, hk0, hk1, hk2, a3, ycc0, ycc1, ycc2, yS, yD]) rfl ⟨rfl, ?_⟩
  exact ((hB.out.q.set (by show _ ≤ w.heap.size + 1 + 1; omega) _).set (by show _ ≤ w.heap.size + 1 + 1; omega) _).set (by show _ ≤ w.heap.size + 1 + 1; omega) _
set_option maxHeartbeats 2000000 in
theorem yto_any (r g b : Nat) (hr : r < 4294967296) (hg : g < 4294967296) (hb : b < 4294967296) (w : World) : Calls Try.prog 38 #[.agg #[], .agg #[.int .u32 (r : Int), .int .u32 (g : Int), .int .u32 (b : Int)]] w fun e w' => e = .returned (a3 (rgb0 r g b) (rgb1 r g b) (rgb2 r g b)) ∧ Q w w' := by
  have l1 := fun x y w => run_res .add (by simp) 53 x y Try.prog w
  have l2 := fun x y w => run_res .sub (by simp) 53 x y Try.prog w
  have l3 := fun x y w => run_res .mul (by simp) 53 x y Try.prog w
  have l4 := fun x y w => run_res .quo (by simp) 53 x y Try.prog w
  have l5 := same7
  have KV : Hid (∀ (s : Nat) (h : s < 4294967296) (w : World), Calls Try.prog 39 #[.int .u32 s] w fun e w' => e = .returned (.float .f64 (wideW s)) ∧ Q w w') := spnum_any
  go_enter Try.func38, Try.ntmps38
  go_wp2_with fail
  have hB : Hid (B3 w _ r g b) := b3_of w 49 r g b
  generalize (((w.alloc (Obj.cells #[] 49)).alloc (Obj.cells #[.int .u32 (r : Int), .int .u32 (g : Int), .int .u32 (b : Int)] 47)).alloc (Obj.cells #[.int .u32 0, .int .u32 0, .int .u32 0] 47)) = wz at hB ⊢
  have d0 := qw_cell hB.out.d0
  have d1 := qw_cell hB.out.d1
  have d2 := qw_cell hB.out.d2
  have n0 := qw_some wz
  refine wp_region_quiet_Q (by kernel_rfl) (by kernel_rfl) ?_
  repeat (first | go_big_quiet_step (first | (go_at_call 39; exact calls_qw (KV.out _ (by assumption) _))) | quiet_step (first | (go_at_call 39; exact calls_qw (KV.out _ (by assumption) _))))
  refine wpQuiet_nil ?_
  intro w4 hw'
  have hq4 := qw_out hw'
  clear hw' d0 d1 d2 n0 KV
  replace hB : Hid (B3 w w4 r g b) := hB.out.next hq4
  clear hq4
  go_wp2_with fail
  refine (spsam_any _ _).mono ?_
  rintro e w5 ⟨rfl, q5⟩
  have Q5 : Hid (Q w4 w5) := (resU_q _ _ _ _).trans ((resU_q _ _ _ _).trans (q5))
  clear q5
  rw [narW_of (res_can hA1 (res_can hA2 (can_wide r) (can_wide g)) (can_wide b))]
  go_wp2_with fail
  refine (spsam_any _ _).mono ?_
  rintro e w6 ⟨rfl, q6⟩
  have Q6 : Hid (Q w5 w6) := (resU_q _ _ _ _).trans (q6)
  clear q6
  rw [narW_of (res_can hA1 (can_wide r) (can_wide g))]
  go_wp2_with fail
  refine (spsam_any _ _).mono ?_
  rintro e w7 ⟨rfl, q7⟩
  have Q7 : Hid (Q w6 w7) := (resU_q _ _ _ _).trans (q7)
  clear q7
  rw [narW_of (res_can hA2 (res_can hA2 (can_wide r) (can_wide g)) (can_wide b))]
  replace hB : Hid (B3 w w7 r g b) := hB.out.next ((Q5.out.trans Q6.out).trans Q7.out)
  clear Q5 Q6 Q7
  have hk0 := hB.out.k0
  have hk1 := hB.out.k1
  have hk2 := hB.out.k2
  have hf0 := hB.out.f0
  have hf1 := hB.out.f1
  have hf2 := hB.out.f2
  go_wp2_with fail
  refine bodyPost_ret (v := a3 (rgb0 r g b) (rgb1 r g b) (rgb2 r g b)) (by simp [results, Try.results38, go_sem, hk0, hk1, hk2, a3, rgb0, rgb1, rgb2, rT]) rfl ⟨rfl, ?_⟩
  exact ((hB.out.q.set (by show _ ≤ w.heap.size + 1 + 1; omega) _).set (by show _ ≤ w.heap.size + 1 + 1; omega) _).set (by show _ ≤ w.heap.size + 1 + 1; omega) _
set_option maxHeartbeats 1000000 in
theorem toycc_any (r g b : Nat) (hr : r < 4294967296) (hg : g < 4294967296) (hb : b < 4294967296) (w : World) : Calls Try.prog 10 #[.int .u32 (r : Int), .int .u32 (g : Int), .int .u32 (b : Int)] w fun e w' => e = .returned (t3 (ycc0 r g b) (ycc1 r g b) (ycc2 r g b)) ∧ Q w w' := by
  go_enter Try.func10, Try.ntmps10
  go_wp2_with fail
  refine (yfrom_any r g b hr hg hb _).mono ?_
  rintro e w1 ⟨rfl, q1⟩
  have HQ : Hid (Q w w1) := q1
  clear q1
  unfold a3
  go_wp2_with fail
  go_quiet (fail)
  have HZ : Hid (Q w ((w1.alloc (Obj.cells #[.int .u32 ((ycc0 r g b : Nat) : Int), .int .u32 ((ycc1 r g b : Nat) : Int), .int .u32 ((ycc2 r g b : Nat) : Int)] 47)).drewN nq)) := sp_drewN (HQ.out.cells _ _) _
  generalize ((w1.alloc (Obj.cells #[.int .u32 ((ycc0 r g b : Nat) : Int), .int .u32 ((ycc1 r g b : Nat) : Int), .int .u32 ((ycc2 r g b : Nat) : Int)] 47)).drewN nq) = wq at HZ ⊢
  go_wp2_with fail
  refine bodyPost_ret (v := t3 (ycc0 r g b) (ycc1 r g b) (ycc2 r g b)) (by simp [results, Try.results10, go_sem, t3]) rfl ⟨rfl, HZ.out⟩
set_option maxHeartbeats 1000000 in
theorem fromycc_any (r g b : Nat) (hr : r < 4294967296) (hg : g < 4294967296) (hb : b < 4294967296) (w : World) : Calls Try.prog 12 #[.int .u32 (r : Int), .int .u32 (g : Int), .int .u32 (b : Int)] w fun e w' => e = .returned (t3 (rgb0 r g b) (rgb1 r g b) (rgb2 r g b)) ∧ Q w w' := by
  go_enter Try.func12, Try.ntmps12
  go_wp2_with fail
  refine (yto_any r g b hr hg hb _).mono ?_
  rintro e w1 ⟨rfl, q1⟩
  have HQ : Hid (Q w w1) := q1
  clear q1
  unfold a3
  go_wp2_with fail
  go_quiet (fail)
  have HZ : Hid (Q w ((w1.alloc (Obj.cells #[.int .u32 ((rgb0 r g b : Nat) : Int), .int .u32 ((rgb1 r g b : Nat) : Int), .int .u32 ((rgb2 r g b : Nat) : Int)] 47)).drewN nq)) := sp_drewN (HQ.out.cells _ _) _
  generalize ((w1.alloc (Obj.cells #[.int .u32 ((rgb0 r g b : Nat) : Int), .int .u32 ((rgb1 r g b : Nat) : Int), .int .u32 ((rgb2 r g b : Nat) : Int)] 47)).drewN nq) = wq at HZ ⊢
  go_wp2_with fail
  refine bodyPost_ret (v := t3 (rgb0 r g b) (rgb1 r g b) (rgb2 r g b)) (by simp [results, Try.results12, go_sem, t3]) rfl ⟨rfl, HZ.out⟩
end Go.Proofs.Ytedafbbpcpebbaa
/- By powers of two, in binary64. -/
namespace Go.Proofs.Ytedafbbpcpebbaa
open Go.RowKit
set_option linter.unusedVariables false

theorem told64_num (s : Bool) (m : Nat) (p : Int) : told64 (some (.number s m p)) = Ieee.double.word s (rungOf Ieee.double m p) := by
  rw [told64_some rfl]; show Ieee.double.nearest s m p = _; rw [nearest_rung]
theorem told64_inf (s : Bool) : told64 (some (.infinity s)) = Ieee.double.word s 9218868437227405312 := by
  rw [told64_some rfl]; show Ieee.double.word s Ieee.double.infRung = _; rw [inf64]
theorem mul_power64 (s : Bool) (m : Nat) (p q : Int) : told64 ((Ieee.Datum.number s m p).product (.number false 4503599627370496 q)) = Ieee.double.word s (rungOf Ieee.double m (p + q + 52)) := by
  show told64 (some (.number (s ^^ false) (m * 2 ^ 52) (p + q))) = _
  rw [xor_f, told64_num, rung_scale]; rfl
theorem quo_power64 (s : Bool) {m : Nat} (hm : m < 9007199254740992) (p q : Int) : told64 ((Ieee.Datum.number s m p).quotient 54 (.number false 4503599627370496 q)) = Ieee.double.word s (rungOf Ieee.double m (p - q - 52)) := by
  have hl2 : (4503599627370496 : Nat).log2 = 52 := by decide
  have hl : m.log2 ≤ 52 := by
    by_cases h0 : m = 0
    · subst h0; decide
    · have := (Nat.log2_lt h0).2 (show m < 2 ^ 53 from hm); omega
  obtain ⟨B, hB⟩ : ∃ B, B = 54 + (4503599627370496 : Nat).log2 - m.log2 := ⟨_, rfl⟩
  have hB1 : 54 ≤ B := by omega
  have em : (Ieee.Datum.number s m p).quotient 54 (.number false 4503599627370496 q) = some (.number (s ^^ false) (2 * ((m <<< B) / 4503599627370496) + ((m <<< B) % 4503599627370496 != 0).toNat) (p - q - (B : Int) - 1)) := by
    rw [hB]; simp [Ieee.Datum.quotient]
  have e1 : m <<< B = m * 2 ^ (B - 52) * 4503599627370496 := by
    rw [Nat.shiftLeft_eq, Nat.mul_assoc, show (4503599627370496 : Nat) = 2 ^ 52 from rfl, ← Nat.pow_add, show B - 52 + 52 = B by omega]
  rw [em, e1, Nat.mul_div_cancel _ (by decide), Nat.mul_mod_left, xor_f, told64_num]
  refine congrArg (Ieee.double.word s) ?_
  show rungOf Ieee.double (2 * (m * 2 ^ (B - 52)) + 0) _ = _
  have e2 : 2 * (m * 2 ^ (B - 52)) + 0 = m * 2 ^ (B - 51) := by
    rw [show B - 51 = (B - 52) + 1 by omega, Nat.pow_succ, Nat.add_zero, Nat.mul_comm 2, Nat.mul_assoc]
  rw [e2, rung_scale]
  congr 1; omega
/-- A word times 2^n, rounded. -/
def shfR (n : Int) : RNum → RNum
  | ⟨some (.inr (s, m, e, g))⟩ => .fin s m (e + n) g
  | x => x
def shfW (x : Nat) (n : Int) : Nat := roundD (shfR n (numOf Ieee.double x))
theorem shfW_nan {x : Nat} (h : (Ieee.double.read x).isNaN = true) (n : Int) : shfW x n = 9221120237041090560 := by
  obtain ⟨s, t, e⟩ := isNaN_cases h
  unfold shfW; rw [numOf_datum, e]; rfl
theorem shfW_inf {x : Nat} {s : Bool} (h : Ieee.double.read x = .infinity s) (n : Int) : shfW x n = Ieee.double.word s 9218868437227405312 := by
  unfold shfW; rw [numOf_datum, h]; rfl
theorem shfW_num {x : Nat} {s : Bool} {m : Nat} {p : Int} (h : Ieee.double.read x = .number s m p) (n : Int) : shfW x n = Ieee.double.word s (rungOf Ieee.double m (p + n)) := by
  unfold shfW; rw [numOf_datum, h]
  show roundD (.fin s m (p + n) false) = _
  rw [roundD_fin', nearest_rung]
theorem read_mag {x : Nat} {s : Bool} {m : Nat} {p : Int} (h : Ieee.double.read x = .number s m p) : m < 9007199254740992 := by
  rcases Nat.lt_trichotomy (rung64 x) 9218868437227405312 with g | g | g
  · rw [read_fin64 g] at h
    injection h with _ h _
    rw [← h]; exact mag_lt64 _
  · rw [read_inf64 g] at h; cases h
  · rw [read_nan64 g] at h; cases h
theorem quo_shf (x c : Nat) (q n : Int) (hc : Ieee.double.read c = .number false 4503599627370496 q) (hn : n = -q - 52) : opT .quo x c = shfW x n := by
  unfold opT opD
  rw [hc]
  dsimp only
  cases h : Ieee.double.read x with
  | nan s t => rw [shfW_nan (by rw [h]; rfl)]; rfl
  | infinity s =>
    rw [shfW_inf h, show (Ieee.Datum.infinity s).quotient 54 (.number false 4503599627370496 q) = some (.infinity (s ^^ false)) from rfl, told64_inf, xor_f]
  | number s m p =>
    rw [shfW_num h, quo_power64 s (read_mag h)]
    congr 2; omega
theorem mul_shf (x c : Nat) (q n : Int) (hc : Ieee.double.read c = .number false 4503599627370496 q) (hn : n = q + 52) : opT .mul x c = shfW x n := by
  unfold opT opD
  rw [hc]
  dsimp only
  cases h : Ieee.double.read x with
  | nan s t => rw [shfW_nan (by rw [h]; rfl)]; rfl
  | infinity s =>
    rw [shfW_inf h, show (Ieee.Datum.infinity s).product (.number false 4503599627370496 q) = some (.infinity (s ^^ false)) from rfl, told64_inf, xor_f]
  | number s m p =>
    rw [shfW_num h, mul_power64 s]
    congr 2; omega
theorem opT_comm (x y : Nat) : opT .mul x y = opT .mul y x := by
  unfold opT opD; dsimp only; rw [product_comm]
theorem read_c2 : Ieee.double.read 4611686018427387904 = .number false 4503599627370496 (-51) := by decide
theorem read_c4 : Ieee.double.read 4616189618054758400 = .number false 4503599627370496 (-50) := by decide
theorem read_c23 : Ieee.double.read 4710765210229538816 = .number false 4503599627370496 (-29) := by decide
theorem quo_4 (x : Nat) : opT .quo x 4616189618054758400 = shfW x (-2) := quo_shf x _ _ _ read_c4 (by omega)
theorem quo_2 (x : Nat) : opT .quo x 4611686018427387904 = shfW x (-1) := quo_shf x _ _ _ read_c2 (by omega)
theorem mul_2 (x : Nat) : opT .mul 4611686018427387904 x = shfW x 1 := by rw [opT_comm]; exact mul_shf x _ _ _ read_c2 (by omega)
theorem quo_23 (x : Nat) : opT .quo x 4710765210229538816 = shfW x (-23) := quo_shf x _ _ _ read_c23 (by omega)
theorem mul_23 (x : Nat) : opT .mul x 4710765210229538816 = shfW x 23 := mul_shf x _ _ _ read_c23 (by omega)
theorem opT_add (x y : Nat) : opT .add x y = add64V x y := rfl
end Go.Proofs.Ytedafbbpcpebbaa
