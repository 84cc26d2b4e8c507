/- The document's weights. -/
import Derived.Test.YtgajobomimcoaaaG7ad1b3ac
import Derived.Test.YtgajobomimcoaaaGf2bcfea5
namespace Go.Proofs.Ytgajobomimcoaaa
open Go.RowKit
set_option linter.unusedVariables false
set_option linter.unusedSimpArgs false

set_option maxHeartbeats 1000000 in
theorem rsize_any (k : Int) (w : World) : Calls Try.prog 21 #[.int .i64 k] w fun e w' => e = .returned (.bool (decide (1 ≤ k ∧ k ≤ 1024))) ∧ w' = w := by
  by_cases h1 : 1 ≤ k
  · by_cases h2 : k ≤ 1024
    · rw [decide_eq_true ⟨h1, h2⟩]
      go_enter Try.func21, Try.ntmps21
      go_wp2_with fail
      go_ret
      exact ⟨by first | rfl | simp, rfl⟩
    · rw [decide_eq_false (fun h => h2 h.2)]
      go_enter Try.func21, Try.ntmps21
      go_wp2_with fail
      go_ret
      exact ⟨by first | rfl | (simp; omega), rfl⟩
  · rw [decide_eq_false (fun h => h1 h.1)]
    go_enter Try.func21, Try.ntmps21
    go_wp2_with fail
    go_ret
    exact ⟨by first | rfl | (simp; omega), rfl⟩
theorem mx_abs (a : Int) : ∀ (ts : Array TypeId) (t : TypeId) (w : World), (Builtin.max_ ts t #[.int .i64 a, .int .i64 (-a)]).run Try.prog w = .ok (.int .i64 (absI a)) w := fun ts t w => by rw [← absI_max]; exact run_mx2 ts t _ _ w
set_option maxHeartbeats 2000000 in
set_option maxRecDepth 100000 in
theorem rw1_any (a b : Int) (w : World) (a0 : -81920 ≤ a) (a1 : a ≤ 81920) (b0 : 1 ≤ b) (b1 : b ≤ 2048) :
    Calls Try.prog 23 #[.int .i64 1, .int .i64 a, .int .i64 b] w fun e w' => e = .returned (.int .i64 (if -b ≤ 2 * a ∧ 2 * a < b then 2 * b * b * b else 0)) ∧ w' = w := by
  have hmx := mx_abs a
  generalize absI a = A at hmx
  have m2 := mul_bd (by omega : 0 ≤ b) b1 (by omega : 0 ≤ b) b1
  have m5 := mul_bd m2.1 m2.2 (by omega : 0 ≤ b) b1
  have e5 : 2 * b * b = 2 * (b * b) := Int.mul_assoc _ _ _
  have e6 : 2 * (b * b) * b = 2 * (b * b * b) := Int.mul_assoc _ _ _
  obtain ⟨bb, hbb⟩ : ∃ bb, bb = b * b := ⟨_, rfl⟩
  obtain ⟨bbb, hbbb⟩ : ∃ x, x = b * b * b := ⟨_, rfl⟩
  rw [show (2 * b * b * b : Int) = 2 * bbb by rw [e5, e6, hbbb]]
  rw [← hbbb] at m5 e6
  rw [← hbb] at m2 e5 e6
  obtain ⟨m2a, m2b⟩ := m2
  obtain ⟨m5a, m5b⟩ := m5
  clear hbb hbbb
  by_cases h1 : -b ≤ 2 * a
  · by_cases h2 : 2 * a < b
    · rw [if_pos ⟨h1, h2⟩]
      go_enter Try.func23, Try.ntmps23
      go_wp2_with fail
      go_ret
      exact ⟨rfl, rfl⟩
    · rw [if_neg (fun h => h2 h.2)]
      go_enter Try.func23, Try.ntmps23
      go_wp2_with fail
      go_ret
      exact ⟨rfl, rfl⟩
  · rw [if_neg (fun h => h1 h.1)]
    go_enter Try.func23, Try.ntmps23
    go_wp2_with fail
    go_ret
    exact ⟨rfl, rfl⟩
set_option maxHeartbeats 2000000 in
set_option maxRecDepth 100000 in
theorem rw2_any (a b : Int) (w : World) (a0 : -81920 ≤ a) (a1 : a ≤ 81920) (b0 : 1 ≤ b) (b1 : b ≤ 2048) :
    Calls Try.prog 23 #[.int .i64 2, .int .i64 a, .int .i64 b] w fun e w' => e = .returned (.int .i64 (if absI a < b then 2 * b * b * (b - absI a) else 0)) ∧ w' = w := by
  have hmx := mx_abs a
  have hA : 0 ≤ absI a := by unfold absI; omega
  generalize absI a = A at hmx hA ⊢
  have m2 := mul_bd (by omega : 0 ≤ b) b1 (by omega : 0 ≤ b) b1
  have e5 : 2 * b * b = 2 * (b * b) := Int.mul_assoc _ _ _
  obtain ⟨bb, hbb⟩ : ∃ bb, bb = b * b := ⟨_, rfl⟩
  rw [← hbb] at m2 e5
  rw [e5]
  obtain ⟨m2a, m2b⟩ := m2
  clear hbb
  by_cases h1 : A < b
  · rw [if_pos h1]
    have m3 := mul_bd (x := 2 * bb) (X := 8388608) (y := b - A) (Y := 2048) (by omega) (by omega) (by omega) (by omega)
    obtain ⟨d, hd⟩ : ∃ d, b - A = d := ⟨_, rfl⟩
    rw [hd] at m3 ⊢
    obtain ⟨r, hr⟩ : ∃ r, 2 * bb * d = r := ⟨_, rfl⟩
    rw [hr] at m3 ⊢
    obtain ⟨m3a, m3b⟩ := m3
    have d1 : 0 ≤ d := by omega
    have d2 : d ≤ 2048 := by omega
    go_enter Try.func23, Try.ntmps23
    go_wp2_with fail
    go_ret
    exact ⟨rfl, rfl⟩
  · rw [if_neg h1]
    go_enter Try.func23, Try.ntmps23
    go_wp2_with fail
    go_ret
    exact ⟨rfl, rfl⟩
set_option maxHeartbeats 4000000 in
set_option maxRecDepth 100000 in
theorem rw3_any (a b : Int) (w : World) (a0 : -81920 ≤ a) (a1 : a ≤ 81920) (b0' : 1 ≤ b) (b1 : b ≤ 2048) :
    Calls Try.prog 23 #[.int .i64 3, .int .i64 a, .int .i64 b] w fun e w' => e = .returned (.int .i64 (cubV (absI a) b)) ∧ w' = w := by
  have hmx := mx_abs a
  have c0 : 0 ≤ absI a := by unfold absI; omega
  generalize absI a = c at hmx c0 ⊢
  have b0 : 0 ≤ b := by omega
  by_cases hc : c < 2 * b
  · have c1 : c ≤ 8192 := by omega
    have m1 := mul_bd c0 c1 c0 c1
    have m2 := mul_bd b0 b1 b0 b1
    have m3 := mul_bd m1.1 m1.2 c0 c1
    have m4 := mul_bd m1.1 m1.2 b0 b1
    have m5 := mul_bd m2.1 m2.2 b0 b1
    have m6 := mul_bd c0 c1 m2.1 m2.2
    have e1 : 3 * c * c = 3 * (c * c) := Int.mul_assoc _ _ _
    have e2 : 3 * c * c * c = 3 * (c * c * c) := by rw [e1, Int.mul_assoc]
    have e3 : 5 * c * c = 5 * (c * c) := Int.mul_assoc _ _ _
    have e4 : 5 * c * c * b = 5 * (c * c * b) := by rw [e3, Int.mul_assoc]
    have e5 : 2 * b * b = 2 * (b * b) := Int.mul_assoc _ _ _
    have e6 : 2 * b * b * b = 2 * (b * b * b) := by rw [e5, Int.mul_assoc]
    have e7 : -c * c = -(c * c) := Int.neg_mul _ _
    have e8 : -c * c * c = -(c * c * c) := by rw [e7, Int.neg_mul]
    have e9 : 8 * c * b = 8 * (c * b) := Int.mul_assoc _ _ _
    have e10 : 8 * c * b * b = 8 * (c * (b * b)) := by rw [e9, Int.mul_assoc, Int.mul_assoc]
    have e11 : 4 * b * b = 4 * (b * b) := Int.mul_assoc _ _ _
    have e12 : 4 * b * b * b = 4 * (b * b * b) := by rw [e11, Int.mul_assoc]
    have m7 := mul_bd c0 c1 b0 b1
    unfold cubV
    rw [e2, e4, e6, e8, e10, e12]
    have E1 : Hid (3 * c * c = 3 * (c * c)) := e1
    obtain ⟨cc, hcc⟩ : ∃ cc, cc = c * c := ⟨_, rfl⟩
    obtain ⟨bb, hbb⟩ : ∃ bb, bb = b * b := ⟨_, rfl⟩
    obtain ⟨ccc, hccc⟩ : ∃ x, x = c * c * c := ⟨_, rfl⟩
    obtain ⟨ccb, hccb⟩ : ∃ x, x = c * c * b := ⟨_, rfl⟩
    obtain ⟨bbb, hbbb⟩ : ∃ x, x = b * b * b := ⟨_, rfl⟩
    obtain ⟨cbb, hcbb⟩ : ∃ x, x = c * (b * b) := ⟨_, rfl⟩
    obtain ⟨cb, hcb⟩ : ∃ x, x = c * b := ⟨_, rfl⟩
    rw [← hccc] at m3 e2 e8 ⊢
    rw [← hccb] at m4 e4 ⊢
    rw [← hbbb] at m5 e6 e12 ⊢
    rw [← hcbb] at m6 e10 ⊢
    rw [← hcc] at m1 e1 e3 e7
    rw [← hbb] at m2 e5 e11
    rw [← hcb] at m7 e9
    rw [e1] at e2
    rw [e3] at e4
    rw [e5] at e6
    rw [e7] at e8
    rw [e9] at e10
    rw [e11] at e12
    obtain ⟨m1a, m1b⟩ := m1
    obtain ⟨m2a, m2b⟩ := m2
    obtain ⟨m3a, m3b⟩ := m3
    obtain ⟨m4a, m4b⟩ := m4
    obtain ⟨m5a, m5b⟩ := m5
    obtain ⟨m6a, m6b⟩ := m6
    obtain ⟨m7a, m7b⟩ := m7
    have n8 : -cc * c = -ccc := e8
    clear hcc hbb hccc hccb hbbb hcbb hcb E1
    by_cases h1 : c < b
    · rw [if_pos h1]
      go_enter Try.func23, Try.ntmps23
      go_wp2_with fail
      go_ret
      exact ⟨rfl, rfl⟩
    · rw [if_neg h1, if_pos hc]
      go_enter Try.func23, Try.ntmps23
      go_wp2_with fail
      go_ret
      exact ⟨rfl, rfl⟩
  · have h1 : ¬ c < b := by omega
    unfold cubV
    rw [if_neg h1, if_neg hc]
    go_enter Try.func23, Try.ntmps23
    go_wp2_with fail
    go_ret
    exact ⟨rfl, rfl⟩
theorem rweight_any (kind a b : Int) (w : World) (hk : kind = 1 ∨ kind = 2 ∨ kind = 3) (a0 : -81920 ≤ a) (a1 : a ≤ 81920) (b0 : 1 ≤ b) (b1 : b ≤ 2048) :
    Calls Try.prog 23 #[.int .i64 kind, .int .i64 a, .int .i64 b] w fun e w' => e = .returned (.int .i64 (wgtR kind a b)) ∧ w' = w := by
  rcases hk with rfl | rfl | rfl
  · exact rw1_any a b w a0 a1 b0 b1
  · exact rw2_any a b w a0 a1 b0 b1
  · exact rw3_any a b w a0 a1 b0 b1
end Go.Proofs.Ytgajobomimcoaaa
/- The chapter's examples: known. -/
namespace Go.Proofs.Ytgajobomimcoaaa
open Go.RowKit
set_option linter.unusedVariables false
set_option linter.unusedSimpArgs false

theorem shr_none {z : Nat → Int} {n : Nat} {S : Int} (h1 : sumF z n = S) (h2 : missV z S n = 0) (i : Nat) : shrV z n i = flo z S i := by
  unfold shrV; rw [h1, h2]; exact shrK_zero _ _ _ _
theorem tk1 : wlsV 2 2 4 1 = [(0, 6), (1, 2)] := by decide
theorem tk2 : wlsV 3 2 4 1 = [(0, 816), (1, 208)] := by decide
theorem tk1' : tapsL (wlsV 2 2 4 1) = [(0, 49152), (1, 16384)] := by
  rw [tk1]
  have e := shr_none (z := zf [6, 2]) (n := 2) (S := 8) (by decide) (by decide)
  show tpK [(0, 6), (1, 2)] (shrV (zf [6, 2]) 2) 2 = _
  rw [show shrV (zf [6, 2]) 2 = flo (zf [6, 2]) 8 from funext e]
  decide
theorem tk2' : tapsL (wlsV 3 2 4 1) = [(0, 52224), (1, 13312)] := by
  rw [tk2]
  have e := shr_none (z := zf [816, 208]) (n := 2) (S := 1024) (by decide) (by decide)
  show tpK [(0, 816), (1, 208)] (shrV (zf [816, 208]) 2) 2 = _
  rw [show shrV (zf [816, 208]) 2 = flo (zf [816, 208]) 1024 from funext e]
  decide
theorem sk1 : tabI 3 (shrV (zf [1, 1, 1]) 3) = [21846, 21845, 21845] := by
  have o : ordL (rsV (zf [1, 1, 1]) 3) 3 = [0, 1, 2] := ordL_eq (by decide) (by unfold tlt; decide)
  have s : sumF (zf [1, 1, 1]) 3 = 3 := by decide
  have m : missV (zf [1, 1, 1]) 3 3 = 1 := by decide
  have e : shrV (zf [1, 1, 1]) 3 = fun i : Nat => flo (zf [1, 1, 1]) 3 i + if (i : Int) ∈ ([0] : List Int) then 1 else 0 := by
    funext i
    unfold shrV shrK
    rw [s, m, o]
    rfl
  rw [e]
  decide
theorem sz1 : Sz 2 4 1 := ⟨by decide, by decide, by decide, by decide, by decide, by decide⟩
theorem ok1 : shOk [1, 1, 1] := ⟨by decide, by decide, by decide, by decide⟩
set_option maxHeartbeats 4000000 in
set_option maxRecDepth 100000 in
theorem known9_any (w : World) : Calls Try.prog 9 #[] w fun e w' => e = .returned (.bool true) ∧ Q w w' := by
  have C1 := taps_good 2 2 4 1 w (by decide) sz1 (by rw [tk1]; decide)
  have HC2 : Hid (∀ W : World, Calls Try.prog 11 #[.int .i64 3, .int .i64 2, .int .i64 4, .int .i64 1] W fun e w' => ∃ v n, e = .returned (.tuple #[v, .int .i64 0]) ∧ Tl W w' v (tapsL (wlsV 3 2 4 1)) n) := fun W => taps_good 3 2 4 1 W (by decide) sz1 (by rw [tk2]; decide)
  have HC3 : Hid (∀ W : World, Calls Try.prog 15 #[.slice (some ⟨W.heap.size, 0, none⟩) 3 3] (W.alloc (.cells #[.int .i64 1, .int .i64 1, .int .i64 1] 3)) fun e w' => ∃ g, e = .returned (.tuple #[.slice (some ⟨g, 0, none⟩) 3 3, .int .i64 0]) ∧ W.heap.size + 1 ≤ g ∧ IRow w' g [21846, 21845, 21845] ∧ Q (W.alloc (.cells #[.int .i64 1, .int .i64 1, .int .i64 1] 3)) w') := fun W => by
    have h := share_good (.slice (some ⟨W.heap.size, 0, none⟩) 3 3) [1, 1, 1] (W.alloc (.cells #[.int .i64 1, .int .i64 1, .int .i64 1] 3)) (Or.inl ⟨W.heap.size, 0, 3, rfl, fun i hi => by
      have : i = 0 ∨ i = 1 ∨ i = 2 := by simp at hi; omega
      rcases this with rfl | rfl | rfl <;> simp [go_sem]⟩) ok1
    refine h.mono ?_
    rintro e w' ⟨g, h1, h2, h3, h4⟩
    rw [show ([1, 1, 1] : List Int).length = 3 from rfl, sk1] at h3
    exact ⟨g, h1, by simpa using h2, h3, h4⟩
  have HC4 : Hid (∀ W : World, Calls Try.prog 18 #[.int .i64 2] W fun e w' => ∃ v n, e = .returned (.tuple #[v, .int .i64 0]) ∧ Il W w' v [1, 4, 6, 4, 1] n) := fun W => bin_good 2 W (by decide)
  rw [tk1'] at C1
  rw [tk2'] at HC2
  go_enter Try.func9, Try.ntmps9
  go_wp2_with fail
  refine C1.mono ?_
  rintro e w1 ⟨v1, n1, rfl, h1⟩
  have H1 : Hid (Tl w w1 v1 [(0, 49152), (1, 16384)] n1) := h1
  clear C1 h1
  go_wp2_with fail
  refine (HC2.out w1).mono ?_
  rintro e w2 ⟨v2, n2, rfl, h2⟩
  have H2 : Hid (Tl w1 w2 v2 [(0, 52224), (1, 13312)] n2) := h2
  clear h2
  go_wp2_with fail
  refine (HC3.out w2).mono ?_
  rintro e w3 ⟨g3, rfl, _, h3, q3⟩
  have H3 : Hid (IRow w3 g3 [21846, 21845, 21845]) := h3
  have HQ3 : Hid (Q w2 w3) := ((Q.refl w2).cells _ _).trans q3
  clear h3 q3
  go_wp2_with fail
  refine (HC4.out w3).mono ?_
  rintro e w4 ⟨v4, n4, rfl, h4⟩
  have H4 : Hid (Il w3 w4 v4 [1, 4, 6, 4, 1] n4) := h4
  clear h4
  have T1 : Hid (TSl w4 v1 [(0, 49152), (1, 16384)]) := H1.out.tsl.next ((H2.out.q.trans HQ3.out).trans H4.out.q)
  have T2 : Hid (TSl w4 v2 [(0, 52224), (1, 13312)]) := H2.out.tsl.next (HQ3.out.trans H4.out.q)
  have T3 : Hid (ISl w4 (.slice (some ⟨g3, 0, none⟩) 3 3) [21846, 21845, 21845]) := (H3.out.isl 3).next H4.out.q
  have T4 : Hid (ISl w4 v4 [1, 4, 6, 4, 1]) := H4.out.isl
  have HQ4 : Hid (Q w w4) := ((H1.out.q.trans H2.out.q).trans HQ3.out).trans H4.out.q
  clear H1 H2 H3 H4 HQ3 HC2 HC3 HC4
  go_wp2_with fail
  refine (same_any v1 _ [(0, 49152), (1, 16384)] [(0, 49152), (1, 16384)] (w4.alloc (.cells #[.int .i64 0, .int .i64 49152, .int .i64 1, .int .i64 16384] 31)) (T1.out.next ((Q.refl w4).cells _ _)) (Or.inl ⟨w4.heap.size, 0, 2, rfl, fun i e hi => by
    have : i = 0 ∨ i = 1 := by have := (List.getElem?_eq_some_iff.1 hi).1; simp at this; omega
    rcases this with rfl | rfl <;> (cases hi; simp [go_sem])⟩) (by decide) (by decide)).mono ?_
  rintro e w5 ⟨rfl, q5⟩
  rw [decide_eq_true rfl]
  have HQ5 : Hid (Q w4 w5) := ((Q.refl w4).cells _ _).trans q5
  clear q5
  go_wp2_with fail
  refine (same_any v2 _ [(0, 52224), (1, 13312)] [(0, 52224), (1, 13312)] (w5.alloc (.cells #[.int .i64 0, .int .i64 52224, .int .i64 1, .int .i64 13312] 31)) (T2.out.next (HQ5.out.cells _ _)) (Or.inl ⟨w5.heap.size, 0, 2, rfl, fun i e hi => by
    have : i = 0 ∨ i = 1 := by have := (List.getElem?_eq_some_iff.1 hi).1; simp at this; omega
    rcases this with rfl | rfl <;> (cases hi; simp [go_sem])⟩) (by decide) (by decide)).mono ?_
  rintro e w6 ⟨rfl, q6⟩
  rw [decide_eq_true rfl]
  have HQ6 : Hid (Q w4 w6) := (HQ5.out.cells _ _).trans q6
  clear q6 HQ5
  go_wp2_with fail
  refine (ints_any _ _ [21846, 21845, 21845] [21846, 21845, 21845] (w6.alloc (.cells #[.int .i64 21846, .int .i64 21845, .int .i64 21845] 3)) (T3.out.next (HQ6.out.cells _ _)) (Or.inl ⟨w6.heap.size, 0, 3, rfl, fun i hi => by
    have : i = 0 ∨ i = 1 ∨ i = 2 := by simp at hi; omega
    rcases this with rfl | rfl | rfl <;> simp [go_sem]⟩) (by decide) (by decide)).mono ?_
  rintro e w7 ⟨rfl, q7⟩
  rw [decide_eq_true rfl]
  have HQ7 : Hid (Q w4 w7) := (HQ6.out.cells _ _).trans q7
  clear q7 HQ6
  go_wp2_with fail
  refine (ints_any v4 _ [1, 4, 6, 4, 1] [1, 4, 6, 4, 1] (w7.alloc (.cells #[.int .i64 1, .int .i64 4, .int .i64 6, .int .i64 4, .int .i64 1] 3)) (T4.out.next (HQ7.out.cells _ _)) (Or.inl ⟨w7.heap.size, 0, 5, rfl, fun i hi => by
    have : i = 0 ∨ i = 1 ∨ i = 2 ∨ i = 3 ∨ i = 4 := by simp at hi; omega
    rcases this with rfl | rfl | rfl | rfl | rfl <;> simp [go_sem]⟩) (by decide) (by decide)).mono ?_
  rintro e w8 ⟨rfl, q8⟩
  rw [decide_eq_true rfl]
  have HQ8 : Hid (Q w4 w8) := (HQ7.out.cells _ _).trans q8
  clear q8 HQ7
  go_wp2_with fail
  go_ret
  exact ⟨rfl, HQ4.out.trans HQ8.out⟩
end Go.Proofs.Ytgajobomimcoaaa
/- The document's Taps: what it refuses. -/
namespace Go.Proofs.Ytgajobomimcoaaa
open Go.RowKit
set_option linter.unusedVariables false
set_option linter.unusedSimpArgs false

set_option maxHeartbeats 4000000 in
set_option maxRecDepth 100000 in
theorem rtaps_bad (kind F T i : Int) (w : World) (hE : tapE kind F T i ≠ 0) :
    Calls Try.prog 10 #[.int .i64 kind, .int .i64 F, .int .i64 T, .int .i64 i] w fun e w' => e = .returned (.tuple #[.slice none 0 0, .int .i64 (tapE kind F T i)]) ∧ w' = w := by
  have E : Hid (tapE kind F T i = if 1 ≤ kind ∧ kind ≤ 3 then (if (1 ≤ F ∧ F ≤ 1024) ∧ (1 ≤ T ∧ T ≤ 1024) ∧ 0 ≤ i ∧ i < T then (if F ≤ 15 * T then 0 else 92) else 91) else 90) := rfl
  rw [E.out] at hE ⊢
  clear E
  have HR : Hid (∀ (k : Int) (W : World) (B : Bool), decide (1 ≤ k ∧ k ≤ 1024) = B → Calls Try.prog 21 #[.int .i64 k] W fun e w' => e = .returned (.bool B) ∧ w' = W) := fun k W B h => by rw [← h]; exact rsize_any k W
  by_cases hk : 1 ≤ kind ∧ kind ≤ 3
  · rw [if_pos hk] at hE ⊢
    have k1 : ¬ kind < 1 := by omega
    have k2 : ¬ 3 < kind := by omega
    by_cases hf : 1 ≤ F ∧ F ≤ 1024
    · by_cases ht : 1 ≤ T ∧ T ≤ 1024
      · have HD : Hid _ := And.intro (decide_eq_true hf) (decide_eq_true ht)
        by_cases h0 : 0 ≤ i
        · by_cases hi : i < T
          · rw [if_pos ⟨hf, ht, h0, hi⟩] at hE ⊢
            by_cases hft : F ≤ 15 * T
            · rw [if_pos hft] at hE; exact absurd rfl hE
            · rw [if_neg hft]
              have a1 : ¬ i < 0 := by omega
              have a2 : ¬ T ≤ i := by omega
              have a3 : 15 * T < F := by omega
              obtain ⟨t1, t2⟩ := ht
              clear hE hk hf hft h0
              go_enter Try.func10, Try.ntmps10
              go_wp2_with (go_at_call 21; first | (refine (HR.out F _ true HD.out.1).mono ?_; rintro e w' ⟨rfl, rfl⟩) | (refine (HR.out T _ true HD.out.2).mono ?_; rintro e w' ⟨rfl, rfl⟩))
              go_ret2
              exact ⟨rfl, rfl⟩
          · rw [if_neg (fun h => hi h.2.2.2)]
            have a1 : ¬ i < 0 := by omega
            have a2 : T ≤ i := by omega
            clear hE hk hf ht h0 hi
            go_enter Try.func10, Try.ntmps10
            go_wp2_with (go_at_call 21; first | (refine (HR.out F _ true HD.out.1).mono ?_; rintro e w' ⟨rfl, rfl⟩) | (refine (HR.out T _ true HD.out.2).mono ?_; rintro e w' ⟨rfl, rfl⟩))
            go_ret2
            exact ⟨rfl, rfl⟩
        · rw [if_neg (fun h => h0 h.2.2.1)]
          have a1 : i < 0 := by omega
          clear hE hk hf ht h0
          go_enter Try.func10, Try.ntmps10
          go_wp2_with (go_at_call 21; first | (refine (HR.out F _ true HD.out.1).mono ?_; rintro e w' ⟨rfl, rfl⟩) | (refine (HR.out T _ true HD.out.2).mono ?_; rintro e w' ⟨rfl, rfl⟩))
          go_ret2
          exact ⟨rfl, rfl⟩
      · rw [if_neg (fun h => ht h.2.1)]
        have HD : Hid _ := And.intro (decide_eq_true hf) (decide_eq_false ht)
        clear hE hk hf ht
        go_enter Try.func10, Try.ntmps10
        go_wp2_with (go_at_call 21; first | (refine (HR.out F _ true HD.out.1).mono ?_; rintro e w' ⟨rfl, rfl⟩) | (refine (HR.out T _ false HD.out.2).mono ?_; rintro e w' ⟨rfl, rfl⟩))
        go_ret2
        exact ⟨rfl, rfl⟩
    · rw [if_neg (fun h => hf h.1)]
      have HD : Hid _ := And.intro (decide_eq_false hf) (decide_eq_false hf)
      clear hE hk hf
      go_enter Try.func10, Try.ntmps10
      go_wp2_with (go_at_call 21; first | (refine (HR.out F _ false HD.out.1).mono ?_; rintro e w' ⟨rfl, rfl⟩))
      go_ret2
      exact ⟨rfl, rfl⟩
  · rw [if_neg hk]
    by_cases k1 : kind < 1
    · clear hE hk HR
      go_enter Try.func10, Try.ntmps10
      go_wp2_with fail
      go_ret2
      exact ⟨rfl, rfl⟩
    · have k2 : 3 < kind := by omega
      clear hE hk HR
      go_enter Try.func10, Try.ntmps10
      go_wp2_with fail
      go_ret2
      exact ⟨rfl, rfl⟩
end Go.Proofs.Ytgajobomimcoaaa
