/- The matrix that keeps, by value; one and nothing. -/
import Derived.Test.YtlelgifdnhnphabG57822032
import Derived.Test.YtlelgifdnhnphabGf49bb773
import Derived.Test.YtlelgifdnhnphabG393e0c75
import Derived.Test.YtlelgifdnhnphabG913991d9
import Derived.Test.YtlelgifdnhnphabG57c5a38a
namespace Go.Proofs.Ytlelgifdnhnphab
open Go.RowKit
set_option linter.unusedVariables false

theorem mag32_lt (r : Nat) : mag32 r < 2 ^ 24 := by unfold mag32 plc32; omega
theorem sample_log {a : Nat} (h : rung32 a < 2139095040) : (sampleZ a).natAbs.log2 ≤ 2000 := by
  unfold sampleZ
  rw [signed_abs]
  exact units_log (cap_units (mag32_lt _) (by have := plc_le32 h; omega))
theorem sample_RN {a : Nat} (h : rung32 a < 2139095040) : RN (sampleZ a) = sampleZ a := by
  have e := (wide_fin h).2.2
  have := RN_self (v := wideN a) (by rw [e]; exact sample_log h)
  rwa [e] at this
theorem one_fin : rung32 1065353216 < 2139095040 := by decide
theorem zero_fin : rung32 0 < 2139095040 := by decide
theorem prod_one {a : Nat} (h : rung32 a < 2139095040) : prodZ 1065353216 a = sampleZ a := by
  unfold prodZ sampleZ
  have e1 : sgn32 1065353216 = false := by decide
  have e2 : mag32 (rung32 1065353216) = 8388608 := by decide
  have e3 : plc32 (rung32 1065353216) = 126 := by decide
  rw [e1, e2, e3, Bool.false_xor]
  unfold Ieee.signed
  rw [Nat.shiftLeft_eq, Nat.shiftLeft_eq]
  have : 8388608 * mag32 (rung32 a) * 2 ^ (126 + plc32 (rung32 a) + 776) = mag32 (rung32 a) * 2 ^ (plc32 (rung32 a) + 925) := by
    rw [show plc32 (rung32 a) + 925 = 23 + (126 + plc32 (rung32 a) + 776) by omega, Nat.pow_add 2 23, Nat.mul_comm 8388608, Nat.mul_assoc]
  rw [this]
theorem prod_zero (a : Nat) : prodZ 0 a = 0 := by
  unfold prodZ
  have e2 : mag32 (rung32 0) = 0 := by decide
  rw [e2, Nat.zero_mul]
  unfold Ieee.signed
  rw [Nat.shiftLeft_eq, Nat.zero_mul]
  cases (sgn32 0 ^^ sgn32 a) <;> rfl
theorem mul_word {a b : Nat} (ha : rung32 a < 2139095040) (hb : rung32 b < 2139095040) (hs : (prodZ a b).natAbs.log2 ≤ 2000) : Wf (opT .mul (wideW a) (wideW b)) (RN (prodZ a b)) := by
  have e := prod_units ha hb
  rw [wideW_of (fin_num ha), wideW_of (fin_num hb), opT_of hA3 e]
  obtain ⟨_, _, h1, h2⟩ := wordOf_facts (σ := sgn32 a ^^ sgn32 b) hs (fun h => by
    have hh : Ieee.signed (sgn32 a ^^ sgn32 b) (mag32 (rung32 a) * mag32 (rung32 b)) (plc32 (rung32 a) + plc32 (rung32 b) + 776) ≠ 0 := h
    exact signed_sign hh)
  exact ⟨h1, h2⟩
theorem mul_one_wf {a : Nat} (h : rung32 a < 2139095040) : Wf (opT .mul (wideW 1065353216) (wideW a)) (sampleZ a) := by
  have := mul_word one_fin h (by rw [prod_one h]; exact sample_log h)
  rwa [prod_one h, sample_RN h] at this
theorem mul_zero_wf {a : Nat} (h : rung32 a < 2139095040) : Wf (opT .mul (wideW 0) (wideW a)) 0 := by
  have := mul_word zero_fin h (by rw [prod_zero]; decide)
  rwa [prod_zero, RN_zero] at this
theorem add_zero_wf {x y a : Nat} (h : rung32 a < 2139095040) (hx : Wf x (sampleZ a)) (hy : Wf y 0) : Wf (opT .add x y) (sampleZ a) := by
  have := add_wf hx hy (by rw [Int.add_zero]; exact sample_log h)
  rwa [Int.add_zero, sample_RN h] at this
theorem zero_add_wf {x y a : Nat} (h : rung32 a < 2139095040) (hx : Wf x 0) (hy : Wf y (sampleZ a)) : Wf (opT .add x y) (sampleZ a) := by
  have := add_wf hx hy (by rw [Int.zero_add]; exact sample_log h)
  rwa [Int.zero_add, sample_RN h] at this
theorem zero_zero_wf {x y : Nat} (hx : Wf x 0) (hy : Wf y 0) : Wf (opT .add x y) 0 := by
  have := add_wf hx hy (by decide)
  rwa [Int.zero_add, RN_zero] at this
def idM (i : Nat) : Nat := if i = 0 ∨ i = 4 ∨ i = 8 then 1065353216 else 0
theorem idM_lt (i : Nat) : idM i < 4294967296 := by unfold idM; split <;> decide
theorem keep_row {x y z : Nat} (hx : rung32 x < 2139095040) (hy : rung32 y < 2139095040) (hz : rung32 z < 2139095040) :
    (srung32 (mixM idM 0 x y z) = srung32 x ∧ nanN (mixM idM 0 x y z) = false) ∧ (srung32 (mixM idM 1 x y z) = srung32 y ∧ nanN (mixM idM 1 x y z) = false) ∧ (srung32 (mixM idM 2 x y z) = srung32 z ∧ nanN (mixM idM 2 x y z) = false) := by
  refine ⟨?_, ?_, ?_⟩
  · have h : Wf (sum3 1065353216 0 0 x y z) (sampleZ x) := add_zero_wf hx (add_zero_wf hx (mul_one_wf hx) (mul_zero_wf hy)) (mul_zero_wf hz)
    have := nar_wf h
    rw [RS_self hx] at this
    exact this
  · have h : Wf (sum3 0 1065353216 0 x y z) (sampleZ y) := add_zero_wf hy (zero_add_wf hy (mul_zero_wf hx) (mul_one_wf hy)) (mul_zero_wf hz)
    have := nar_wf h
    rw [RS_self hy] at this
    exact this
  · have h : Wf (sum3 0 0 1065353216 x y z) (sampleZ z) := zero_add_wf hz (zero_zero_wf (mul_zero_wf hx) (mul_zero_wf hy)) (mul_one_wf hz)
    have := nar_wf h
    rw [RS_self hz] at this
    exact this
theorem affine_one {s : Nat} (h : s < 4294967296) : affineV 1065353216 2147483648 s = madeN s := by
  unfold affineV
  rw [fma_one, add_nought h]
end Go.Proofs.Ytlelgifdnhnphab
/- What value answers. -/
namespace Go.Proofs.Ytlelgifdnhnphab
open Go.RowKit
set_option linter.unusedVariables false
set_option linter.unusedSimpArgs false

set_option maxHeartbeats 400000 in
theorem value8_any (a : Nat) (h : nanN a = false) (w : World) : Calls Try.prog 9 #[.int .u32 (a : Int)] w fun e w' => e = .returned (.float .f64 (wideN a)) ∧ w' = w := by
  have l2 := f32from
  have l1 := fun w => run_convert_float_float (P := Try.prog) w 59 37 .f32 .f64 a _ (by kernel_rfl) Try.underlying37 (wide_conv h)
  go_enter Try.func9, Try.ntmps9
  go_wp2_with fail
  go_ret
  exact ⟨rfl, rfl⟩
theorem keep_same {a b : Nat} (ha : nanN a = false) (hb : nanN b = false) (h : srung32 a = srung32 b) : Ieee.double.order (wideN a) (wideN b) = some Ordering.eq := by
  rw [ord_wide ha hb, Int.compare_eq_eq.2 h]
theorem nanN_dig {s : Nat} (h : s < 4294967296) : nanN s = (decide (s / 8388608 % 256 = 255) && decide (s % 8388608 ≠ 0)) := by
  unfold nanN
  rw [← Bool.decide_and, decide_eq_decide]
  omega
theorem fin_dig {s : Nat} (h : s < 4294967296) (h1 : s / 8388608 % 256 ≠ 255) : rung32 s < 2139095040 := by
  unfold rung32
  omega
theorem yes_pics0 (w : World) : Calls Try.prog 13 #[.agg #[.int .i64 0, .slice none 0 0], .agg #[.int .i64 0, .slice none 0 0]] w fun e w' => e = .returned (.bool true) ∧ Q w w' := by
  refine pics_yes 0 _ _ [] [] w ?_ ?_ rfl (fun i x y hx => by simp at hx) (fun x hx => by cases hx) (by decide)
  all_goals exact Or.inl ⟨_, _, rfl, rfl⟩
theorem least_comm (s t : Nat) : leastG s t = leastG t s := by
  unfold leastG; rw [leastV_comm]
theorem bounds_two (lo hi s : Nat) : boundsV lo hi s = leastG (greatG s lo) hi := by
  unfold boundsV leastG
  rw [greatG_int]
end Go.Proofs.Ytlelgifdnhnphab
/- Two: what is refused; Matrix of too few planes. -/
namespace Go.Proofs.Ytlelgifdnhnphab
open Go.RowKit
set_option linter.unusedVariables false
set_option linter.unusedSimpArgs false

set_option maxHeartbeats 4000000 in
set_option maxRecDepth 100000 in
theorem two_80a {k : Int} {f : FuncId} {G : Nat → Nat → Nat} (hk : Kind k f G) (w : World) (sp sp' : Int) (g o cap g' o' cap' a b n m a' b' : Nat) (L L' : List PL) (h : Pc w g o a b L) (hn : L.length = n) (hcap : n ≤ cap) (h' : Pc w g' o' a' b' L') (hn' : L'.length = m) (hcap' : m ≤ cap') (hsp : spcB sp n = true) (hsp' : spcB sp' m = true) (hne : n ≠ m) :
    Calls Try.prog 11 #[.int .i64 k, .agg #[.int .i64 sp, .slice (some ⟨g, o, none⟩) n cap], .agg #[.int .i64 sp', .slice (some ⟨g', o', none⟩) m cap']] w fun e w' => e = .returned (.tuple #[.agg #[.int .i64 0, .slice none 0 0], .int .i64 80]) ∧ Q w w' := by
  have HP : Hid (Pc w g o a b L) := h
  have HR : Hid (Pc w g' o' a' b' L') := h'
  have HN : Hid (L.length = n ∧ L'.length = m) := ⟨hn, hn'⟩
  have n4 : n ≤ 4 := by rw [← hn]; exact h.n4
  have n1 : 1 ≤ n := by rw [← hn]; exact h.n1
  have m4 : m ≤ 4 := by rw [← hn']; exact h'.n4
  have m1 : 1 ≤ m := by rw [← hn']; exact h'.n1
  have HSP : Hid (spcB sp n = true ∧ spcB sp' m = true) := ⟨hsp, hsp'⟩
  have HK : Hid (Kind k f G) := hk
  have l2 := pair_nil
  clear h h' hn hn' hsp hsp' hk
  have e1 : ((n : Int) != (m : Int)) = true := by rw [bne_iff_ne]; omega
  have e2 : ((n : Int) == (m : Int)) = false := by rw [beq_eq_false_iff_ne]; omega
  have e3 : ¬ (n : Int) = (m : Int) := by omega
  go_enter Try.func11, Try.ntmps11
  go_wp2_with fail
  have HQ0 : Hid (Q w (((w.alloc (Obj.cells #[Value.int IntKind.i64 sp, Value.slice (some { block := g, off := o }) n cap] 24)).alloc (Obj.cells #[Value.int IntKind.i64 sp', Value.slice (some { block := g', off := o' }) m cap'] 24)).alloc (Obj.cells #[Value.int IntKind.i64 0, Value.slice none 0 0] 24))) := (((Q.refl w).cells _ _).cells _ _).cells _ _
  refine (checkboth_good (HP.out.next HQ0.out) HN.out.1 hcap (HR.out.next HQ0.out) HN.out.2 hcap' HSP.out.1 HSP.out.2).mono ?_
  rintro e w1 ⟨rfl, q1⟩
  have HQ1 : Hid (Q w w1) := HQ0.out.trans q1
  have p0 : w1.cell? ⟨w.heap.size, 0, none⟩ = some (.int .i64 sp) := q1.cell (by simp [go_sem])
  have p1 : w1.cell? ⟨w.heap.size, 1, none⟩ = some (.slice (some ⟨g, o, none⟩) n cap) := q1.cell (by simp [go_sem])
  have b0 : w1.cell? ⟨w.heap.size + 1, 0, none⟩ = some (.int .i64 sp') := q1.cell (by simp [go_sem])
  have b1 : w1.cell? ⟨w.heap.size + 1, 1, none⟩ = some (.slice (some ⟨g', o', none⟩) m cap') := q1.cell (by simp [go_sem])
  have r0 : w1.cell? ⟨w.heap.size + 1 + 1, 0, none⟩ = some (.int .i64 0) := q1.cell (by simp [go_sem])
  have r1 : w1.cell? ⟨w.heap.size + 1 + 1, 1, none⟩ = some (.slice none 0 0) := q1.cell (by simp [go_sem])
  have rf : ∀ j, w1.frozen? ⟨w.heap.size + 1 + 1, j, none⟩ = false := fun j => (q1.2 _).trans (by simp [go_sem])
  clear q1 HQ0
  go_wp2_with fail
  refine (HK.out.of w1).mono ?_
  rintro e w1' ⟨rfl, rfl⟩
  go_wp2_with fail
  obtain ⟨x0, hx0⟩ : ∃ x, L[0]? = some x := ⟨_, List.getElem?_eq_getElem (by rw [HN.out.1]; omega)⟩
  obtain ⟨y0, hy0⟩ : ∃ x, L'[0]? = some x := ⟨_, List.getElem?_eq_getElem (by rw [HN.out.2]; omega)⟩
  obtain ⟨c0, c1, c2⟩ := (HP.out.row.next HQ1.out) 0 x0 hx0
  obtain ⟨d0, d1, d2⟩ := (HR.out.row.next HQ1.out) 0 y0 hy0
  unfold PL.v at c2 d2
  rw [Nat.zero_mul, Nat.add_zero] at c0 c1 c2 d0 d1 d2
  have hn0 : (0 : Int) < (n : Int) := by omega
  have hm0 : (0 : Int) < (m : Int) := by omega
  have n0 := qw_some w1'
  have f0 := qw_cell c0
  have f1 := qw_cell c1
  have f2 := qw_cell c2
  have f3 := qw_cell d0
  have f4 := qw_cell d1
  have f5 := qw_cell d2
  have f6 := qw_cell p1
  have f7 := qw_cell b1
  have HO : Hid (∀ z : World, Calls Try.prog 17 #[.agg #[.int .i64 (a : Int), .int .i64 (b : Int), .slice (some ⟨x0.g, x0.o, none⟩) x0.S.length x0.cap], .agg #[.int .i64 (a' : Int), .int .i64 (b' : Int), .slice (some ⟨y0.g, y0.o, none⟩) y0.S.length y0.cap]] z fun e w' => e = .returned (.bool ((a : Int) == (a' : Int) && (b : Int) == (b' : Int))) ∧ Q z w') := fun z => by
    have := onesize_any a b a' b' (some ⟨x0.g, x0.o, none⟩) (some ⟨y0.g, y0.o, none⟩) x0.S.length x0.cap y0.S.length y0.cap z
    exact this
  clear hx0 hy0 c0 c1 c2 d0 d1 d2
  refine wp_region_quiet_Q (by kernel_rfl) (by kernel_rfl) ?_
  repeat (first | go_big_quiet_step (first | (go_at_call 17; exact calls_qw (HO.out _))) | quiet_step (first | (go_at_call 17; exact calls_qw (HO.out _))))
  refine wpQuiet_nil ?_
  intro w2 hw'
  have q2 := qw_out hw'
  clear hw' f0 f1 f2 f3 f4 f5 f6 f7 n0 HO
  have HQ2 : Hid (Q w w2) := HQ1.out.trans q2
  replace p0 := q2.cell p0
  replace b0 := q2.cell b0
  replace r0 := q2.cell r0
  replace r1 := q2.cell r1
  replace rf : ∀ j, w2.frozen? ⟨w.heap.size + 1 + 1, j, none⟩ = false := fun j => (q2.2 _).trans (rf j)
  clear q2
  go_wp2_with fail
  refine bodyPost_ret (v := .tuple #[.agg #[.int .i64 0, .slice none 0 0], .int .i64 80]) (by simp [results, Try.results11, go_sem, r0, r1]) rfl ⟨rfl, ?_⟩
  exact (HQ2.out.set (by show _ ≤ w.heap.size + 1 + 1; omega) _).set (by show _ ≤ w.heap.size + 1 + 1; omega) _
set_option maxHeartbeats 4000000 in
set_option maxRecDepth 100000 in
theorem two_80b {k : Int} {f : FuncId} {G : Nat → Nat → Nat} (hk : Kind k f G) (w : World) (sp sp' : Int) (g o cap g' o' cap' a b n a' b' : Nat) (L L' : List PL) (h : Pc w g o a b L) (hn : L.length = n) (hcap : n ≤ cap) (h' : Pc w g' o' a' b' L') (hn' : L'.length = n) (hcap' : n ≤ cap') (hsp : spcB sp n = true) (hsp' : spcB sp' n = true) (hne : ¬ (a = a' ∧ b = b')) :
    Calls Try.prog 11 #[.int .i64 k, .agg #[.int .i64 sp, .slice (some ⟨g, o, none⟩) n cap], .agg #[.int .i64 sp', .slice (some ⟨g', o', none⟩) n cap']] w fun e w' => e = .returned (.tuple #[.agg #[.int .i64 0, .slice none 0 0], .int .i64 80]) ∧ Q w w' := by
  have HP : Hid (Pc w g o a b L) := h
  have HR : Hid (Pc w g' o' a' b' L') := h'
  have HN : Hid (L.length = n ∧ L'.length = n) := ⟨hn, hn'⟩
  have n4 : n ≤ 4 := by rw [← hn]; exact h.n4
  have n1 : 1 ≤ n := by rw [← hn]; exact h.n1
  have m4 : n ≤ 4 := by rw [← hn']; exact h'.n4
  have m1 : 1 ≤ n := by rw [← hn']; exact h'.n1
  have HSP : Hid (spcB sp n = true ∧ spcB sp' n = true) := ⟨hsp, hsp'⟩
  have HK : Hid (Kind k f G) := hk
  have l2 := pair_nil
  clear h h' hn hn' hsp hsp' hk
  go_enter Try.func11, Try.ntmps11
  go_wp2_with fail
  have HQ0 : Hid (Q w (((w.alloc (Obj.cells #[Value.int IntKind.i64 sp, Value.slice (some { block := g, off := o }) n cap] 24)).alloc (Obj.cells #[Value.int IntKind.i64 sp', Value.slice (some { block := g', off := o' }) n cap'] 24)).alloc (Obj.cells #[Value.int IntKind.i64 0, Value.slice none 0 0] 24))) := (((Q.refl w).cells _ _).cells _ _).cells _ _
  refine (checkboth_good (HP.out.next HQ0.out) HN.out.1 hcap (HR.out.next HQ0.out) HN.out.2 hcap' HSP.out.1 HSP.out.2).mono ?_
  rintro e w1 ⟨rfl, q1⟩
  have HQ1 : Hid (Q w w1) := HQ0.out.trans q1
  have p0 : w1.cell? ⟨w.heap.size, 0, none⟩ = some (.int .i64 sp) := q1.cell (by simp [go_sem])
  have p1 : w1.cell? ⟨w.heap.size, 1, none⟩ = some (.slice (some ⟨g, o, none⟩) n cap) := q1.cell (by simp [go_sem])
  have b0 : w1.cell? ⟨w.heap.size + 1, 0, none⟩ = some (.int .i64 sp') := q1.cell (by simp [go_sem])
  have b1 : w1.cell? ⟨w.heap.size + 1, 1, none⟩ = some (.slice (some ⟨g', o', none⟩) n cap') := q1.cell (by simp [go_sem])
  have r0 : w1.cell? ⟨w.heap.size + 1 + 1, 0, none⟩ = some (.int .i64 0) := q1.cell (by simp [go_sem])
  have r1 : w1.cell? ⟨w.heap.size + 1 + 1, 1, none⟩ = some (.slice none 0 0) := q1.cell (by simp [go_sem])
  have rf : ∀ j, w1.frozen? ⟨w.heap.size + 1 + 1, j, none⟩ = false := fun j => (q1.2 _).trans (by simp [go_sem])
  clear q1 HQ0
  go_wp2_with fail
  refine (HK.out.of w1).mono ?_
  rintro e w1' ⟨rfl, rfl⟩
  go_wp2_with fail
  obtain ⟨x0, hx0⟩ : ∃ x, L[0]? = some x := ⟨_, List.getElem?_eq_getElem (by rw [HN.out.1]; omega)⟩
  obtain ⟨y0, hy0⟩ : ∃ x, L'[0]? = some x := ⟨_, List.getElem?_eq_getElem (by rw [HN.out.2]; omega)⟩
  obtain ⟨c0, c1, c2⟩ := (HP.out.row.next HQ1.out) 0 x0 hx0
  obtain ⟨d0, d1, d2⟩ := (HR.out.row.next HQ1.out) 0 y0 hy0
  unfold PL.v at c2 d2
  rw [Nat.zero_mul, Nat.add_zero] at c0 c1 c2 d0 d1 d2
  have hn0 : (0 : Int) < (n : Int) := by omega
  have hm0 : (0 : Int) < (n : Int) := by omega
  have n0 := qw_some w1'
  have f0 := qw_cell c0
  have f1 := qw_cell c1
  have f2 := qw_cell c2
  have f3 := qw_cell d0
  have f4 := qw_cell d1
  have f5 := qw_cell d2
  have f6 := qw_cell p1
  have f7 := qw_cell b1
  have HO : Hid (∀ z : World, Calls Try.prog 17 #[.agg #[.int .i64 (a : Int), .int .i64 (b : Int), .slice (some ⟨x0.g, x0.o, none⟩) x0.S.length x0.cap], .agg #[.int .i64 (a' : Int), .int .i64 (b' : Int), .slice (some ⟨y0.g, y0.o, none⟩) y0.S.length y0.cap]] z fun e w' => e = .returned (.bool false) ∧ Q z w') := fun z => by
    have := onesize_any a b a' b' (some ⟨x0.g, x0.o, none⟩) (some ⟨y0.g, y0.o, none⟩) x0.S.length x0.cap y0.S.length y0.cap z
    rwa [show ((a : Int) == (a' : Int) && (b : Int) == (b' : Int)) = false by rw [Bool.and_eq_false_iff]; by_cases h : a = a'; exact Or.inr (by rw [beq_eq_false_iff_ne]; intro e; exact hne ⟨h, by omega⟩); exact Or.inl (by rw [beq_eq_false_iff_ne]; omega)] at this
  clear hx0 hy0 c0 c1 c2 d0 d1 d2
  refine wp_region_quiet_Q (by kernel_rfl) (by kernel_rfl) ?_
  repeat (first | go_big_quiet_step (first | (go_at_call 17; exact calls_qw (HO.out _))) | quiet_step (first | (go_at_call 17; exact calls_qw (HO.out _))))
  refine wpQuiet_nil ?_
  intro w2 hw'
  have q2 := qw_out hw'
  clear hw' f0 f1 f2 f3 f4 f5 f6 f7 n0 HO
  have HQ2 : Hid (Q w w2) := HQ1.out.trans q2
  replace p0 := q2.cell p0
  replace b0 := q2.cell b0
  replace r0 := q2.cell r0
  replace r1 := q2.cell r1
  replace rf : ∀ j, w2.frozen? ⟨w.heap.size + 1 + 1, j, none⟩ = false := fun j => (q2.2 _).trans (rf j)
  clear q2
  go_wp2_with fail
  refine bodyPost_ret (v := .tuple #[.agg #[.int .i64 0, .slice none 0 0], .int .i64 80]) (by simp [results, Try.results11, go_sem, r0, r1]) rfl ⟨rfl, ?_⟩
  exact (HQ2.out.set (by show _ ≤ w.heap.size + 1 + 1; omega) _).set (by show _ ≤ w.heap.size + 1 + 1; omega) _
set_option maxHeartbeats 4000000 in
set_option maxRecDepth 100000 in
theorem two_81 {k : Int} {f : FuncId} {G : Nat → Nat → Nat} (hk : Kind k f G) (w : World) (sp sp' : Int) (g o cap g' o' cap' a b n : Nat) (L L' : List PL) (h : Pc w g o a b L) (hn : L.length = n) (hcap : n ≤ cap) (h' : Pc w g' o' a b L') (hn' : L'.length = n) (hcap' : n ≤ cap') (hsp : spcB sp n = true) (hsp' : spcB sp' n = true) (hne : sp ≠ sp') :
    Calls Try.prog 11 #[.int .i64 k, .agg #[.int .i64 sp, .slice (some ⟨g, o, none⟩) n cap], .agg #[.int .i64 sp', .slice (some ⟨g', o', none⟩) n cap']] w fun e w' => e = .returned (.tuple #[.agg #[.int .i64 0, .slice none 0 0], .int .i64 81]) ∧ Q w w' := by
  have HP : Hid (Pc w g o a b L) := h
  have HR : Hid (Pc w g' o' a b L') := h'
  have HN : Hid (L.length = n ∧ L'.length = n) := ⟨hn, hn'⟩
  have n4 : n ≤ 4 := by rw [← hn]; exact h.n4
  have n1 : 1 ≤ n := by rw [← hn]; exact h.n1
  have m4 : n ≤ 4 := by rw [← hn']; exact h'.n4
  have m1 : 1 ≤ n := by rw [← hn']; exact h'.n1
  have HSP : Hid (spcB sp n = true ∧ spcB sp' n = true) := ⟨hsp, hsp'⟩
  have HK : Hid (Kind k f G) := hk
  have l2 := pair_nil
  clear h h' hn hn' hsp hsp' hk
  have e1 : (sp != sp') = true := by rw [bne_iff_ne]; exact hne
  have e2 : (sp == sp') = false := by rw [beq_eq_false_iff_ne]; exact hne
  go_enter Try.func11, Try.ntmps11
  go_wp2_with fail
  have HQ0 : Hid (Q w (((w.alloc (Obj.cells #[Value.int IntKind.i64 sp, Value.slice (some { block := g, off := o }) n cap] 24)).alloc (Obj.cells #[Value.int IntKind.i64 sp', Value.slice (some { block := g', off := o' }) n cap'] 24)).alloc (Obj.cells #[Value.int IntKind.i64 0, Value.slice none 0 0] 24))) := (((Q.refl w).cells _ _).cells _ _).cells _ _
  refine (checkboth_good (HP.out.next HQ0.out) HN.out.1 hcap (HR.out.next HQ0.out) HN.out.2 hcap' HSP.out.1 HSP.out.2).mono ?_
  rintro e w1 ⟨rfl, q1⟩
  have HQ1 : Hid (Q w w1) := HQ0.out.trans q1
  have p0 : w1.cell? ⟨w.heap.size, 0, none⟩ = some (.int .i64 sp) := q1.cell (by simp [go_sem])
  have p1 : w1.cell? ⟨w.heap.size, 1, none⟩ = some (.slice (some ⟨g, o, none⟩) n cap) := q1.cell (by simp [go_sem])
  have b0 : w1.cell? ⟨w.heap.size + 1, 0, none⟩ = some (.int .i64 sp') := q1.cell (by simp [go_sem])
  have b1 : w1.cell? ⟨w.heap.size + 1, 1, none⟩ = some (.slice (some ⟨g', o', none⟩) n cap') := q1.cell (by simp [go_sem])
  have r0 : w1.cell? ⟨w.heap.size + 1 + 1, 0, none⟩ = some (.int .i64 0) := q1.cell (by simp [go_sem])
  have r1 : w1.cell? ⟨w.heap.size + 1 + 1, 1, none⟩ = some (.slice none 0 0) := q1.cell (by simp [go_sem])
  have rf : ∀ j, w1.frozen? ⟨w.heap.size + 1 + 1, j, none⟩ = false := fun j => (q1.2 _).trans (by simp [go_sem])
  clear q1 HQ0
  go_wp2_with fail
  refine (HK.out.of w1).mono ?_
  rintro e w1' ⟨rfl, rfl⟩
  go_wp2_with fail
  obtain ⟨x0, hx0⟩ : ∃ x, L[0]? = some x := ⟨_, List.getElem?_eq_getElem (by rw [HN.out.1]; omega)⟩
  obtain ⟨y0, hy0⟩ : ∃ x, L'[0]? = some x := ⟨_, List.getElem?_eq_getElem (by rw [HN.out.2]; omega)⟩
  obtain ⟨c0, c1, c2⟩ := (HP.out.row.next HQ1.out) 0 x0 hx0
  obtain ⟨d0, d1, d2⟩ := (HR.out.row.next HQ1.out) 0 y0 hy0
  unfold PL.v at c2 d2
  rw [Nat.zero_mul, Nat.add_zero] at c0 c1 c2 d0 d1 d2
  have hn0 : (0 : Int) < (n : Int) := by omega
  have hm0 : (0 : Int) < (n : Int) := by omega
  have n0 := qw_some w1'
  have f0 := qw_cell c0
  have f1 := qw_cell c1
  have f2 := qw_cell c2
  have f3 := qw_cell d0
  have f4 := qw_cell d1
  have f5 := qw_cell d2
  have f6 := qw_cell p1
  have f7 := qw_cell b1
  have HO : Hid (∀ z : World, Calls Try.prog 17 #[.agg #[.int .i64 (a : Int), .int .i64 (b : Int), .slice (some ⟨x0.g, x0.o, none⟩) x0.S.length x0.cap], .agg #[.int .i64 (a : Int), .int .i64 (b : Int), .slice (some ⟨y0.g, y0.o, none⟩) y0.S.length y0.cap]] z fun e w' => e = .returned (.bool true) ∧ Q z w') := fun z => by
    have := onesize_any a b a b (some ⟨x0.g, x0.o, none⟩) (some ⟨y0.g, y0.o, none⟩) x0.S.length x0.cap y0.S.length y0.cap z
    simpa using this
  clear hx0 hy0 c0 c1 c2 d0 d1 d2
  refine wp_region_quiet_Q (by kernel_rfl) (by kernel_rfl) ?_
  repeat (first | go_big_quiet_step (first | (go_at_call 17; exact calls_qw (HO.out _))) | quiet_step (first | (go_at_call 17; exact calls_qw (HO.out _))))
  refine wpQuiet_nil ?_
  intro w2 hw'
  have q2 := qw_out hw'
  clear hw' f0 f1 f2 f3 f4 f5 f6 f7 n0 HO
  have HQ2 : Hid (Q w w2) := HQ1.out.trans q2
  replace p0 := q2.cell p0
  replace b0 := q2.cell b0
  replace r0 := q2.cell r0
  replace r1 := q2.cell r1
  replace rf : ∀ j, w2.frozen? ⟨w.heap.size + 1 + 1, j, none⟩ = false := fun j => (q2.2 _).trans (rf j)
  clear q2
  go_wp2_with fail
  refine bodyPost_ret (v := .tuple #[.agg #[.int .i64 0, .slice none 0 0], .int .i64 81]) (by simp [results, Try.results11, go_sem, r0, r1]) rfl ⟨rfl, ?_⟩
  exact (HQ2.out.set (by show _ ≤ w.heap.size + 1 + 1; omega) _).set (by show _ ≤ w.heap.size + 1 + 1; omega) _
set_option maxHeartbeats 2000000 in
set_option maxRecDepth 100000 in
theorem matrix_80 (m : Nat → Nat) (w : World) (sp : Int) (g o cap a b n : Nat) (L : List PL) (h : Pc w g o a b L) (hn : L.length = n) (hcap : n ≤ cap) (h3 : n < 3) (hsp : spcB sp n = true) :
    Calls Try.prog 8 #[.agg #[.int .i64 sp, .slice (some ⟨g, o, none⟩) n cap], .agg #[.int .u32 ((m 0 : Nat) : Int), .int .u32 ((m 1 : Nat) : Int), .int .u32 ((m 2 : Nat) : Int), .int .u32 ((m 3 : Nat) : Int), .int .u32 ((m 4 : Nat) : Int), .int .u32 ((m 5 : Nat) : Int), .int .u32 ((m 6 : Nat) : Int), .int .u32 ((m 7 : Nat) : Int), .int .u32 ((m 8 : Nat) : Int)]] w fun e w' => e = .returned (.tuple #[.agg #[.int .i64 0, .slice none 0 0], .int .i64 80]) ∧ Q w w' := by
  have HP : Hid (Pc w g o a b L) := h
  have HN : Hid (L.length = n) := hn
  have HS : Hid (spcB sp n = true) := hsp
  have hn3 : (n : Int) < 3 := by omega
  have qa : Hid (∀ a b c d e f, Q w (((w.alloc (.cells a b)).alloc (.cells c d)).alloc (.cells e f))) := fun a b c d e f => (((Q.refl w).cells _ _).cells _ _).cells _ _
  clear h hn hsp
  go_enter Try.func8, Try.ntmps8
  go_wp2_with fail
  refine (pcheck_good (HP.out.next (qa.out _ _ _ _ _ _)) HN.out hcap HS.out).mono ?_
  rintro e w1 ⟨rfl, q1⟩
  have HQ1 : Hid (Q w w1) := (qa.out _ _ _ _ _ _).trans q1
  have p0 : w1.cell? ⟨w.heap.size, 0, none⟩ = some (.int .i64 sp) := q1.cell (by simp [go_sem])
  have p1 : w1.cell? ⟨w.heap.size, 1, none⟩ = some (.slice (some ⟨g, o, none⟩) n cap) := q1.cell (by simp [go_sem])
  have r0 : w1.cell? ⟨w.heap.size + 1 + 1, 0, none⟩ = some (.int .i64 0) := q1.cell (by simp [go_sem])
  have r1 : w1.cell? ⟨w.heap.size + 1 + 1, 1, none⟩ = some (.slice none 0 0) := q1.cell (by simp [go_sem])
  have rf : ∀ j, w1.frozen? ⟨w.heap.size + 1 + 1, j, none⟩ = false := fun j => (q1.2 _).trans (by simp [go_sem])
  clear q1
  go_wp2_with fail
  refine bodyPost_ret (v := .tuple #[.agg #[.int .i64 0, .slice none 0 0], .int .i64 80]) (by simp [results, Try.results8, go_sem, r0, r1]) rfl ⟨rfl, ?_⟩
  exact (HQ1.out.set (by show _ ≤ w.heap.size + 1 + 1; omega) _).set (by show _ ≤ w.heap.size + 1 + 1; omega) _
end Go.Proofs.Ytlelgifdnhnphab
