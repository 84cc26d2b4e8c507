/- The document's weights. -/
import Derived.Test.YtdbbpmadkhedlaaG54d451d2
import Derived.Test.YtdbbpmadkhedlaaGfc8d9c6d
import Derived.Test.YtdbbpmadkhedlaaG85b5ec28
import Derived.Test.YtdbbpmadkhedlaaG306dedeb
namespace Go.Proofs.Ytdbbpmadkhedlaa
open Go.RowKit
set_option linter.unusedVariables false
set_option linter.unusedSimpArgs false

set_option maxHeartbeats 1000000 in
theorem r9size_any (k : Int) (w : World) : Calls Try.prog 21 #[.int .i64 k] w fun e w' => e = .returned (.bool (decide (1 ≤ k ∧ k ≤ 1024))) ∧ w' = w := by
  by_cases h1 : 1 ≤ k
  · by_cases h2 : k ≤ 1024
    · rw [decide_eq_true ⟨h1, h2⟩]
      go_enter Try.func21, Try.ntmps21
      go_wp2_with fail
      go_ret
      exact ⟨by first | rfl | simp, rfl⟩
    · rw [decide_eq_false (fun h => h2 h.2)]
      go_enter Try.func21, Try.ntmps21
      go_wp2_with fail
      go_ret
      exact ⟨by first | rfl | (simp; omega), rfl⟩
  · rw [decide_eq_false (fun h => h1 h.1)]
    go_enter Try.func21, Try.ntmps21
    go_wp2_with fail
    go_ret
    exact ⟨by first | rfl | (simp; omega), rfl⟩
theorem mx_abs (a : Int) : ∀ (ts : Array TypeId) (t : TypeId) (w : World), (Builtin.max_ ts t #[.int .i64 a, .int .i64 (-a)]).run Try.prog w = .ok (.int .i64 (absI a)) w := fun ts t w => by rw [← absI_max]; exact run_mx2 ts t _ _ w
set_option maxHeartbeats 2000000 in
set_option maxRecDepth 100000 in
theorem rw1_any (a b : Int) (w : World) (a0 : -81920 ≤ a) (a1 : a ≤ 81920) (b0 : 1 ≤ b) (b1 : b ≤ 2048) :
    Calls Try.prog 23 #[.int .i64 1, .int .i64 a, .int .i64 b] w fun e w' => e = .returned (.int .i64 (if -b ≤ 2 * a ∧ 2 * a < b then 2 * b * b * b else 0)) ∧ w' = w := by
  have hmx := mx_abs a
  generalize absI a = A at hmx
  have m2 := mul_bd (by omega : 0 ≤ b) b1 (by omega : 0 ≤ b) b1
  have m5 := mul_bd m2.1 m2.2 (by omega : 0 ≤ b) b1
  have e5 : 2 * b * b = 2 * (b * b) := Int.mul_assoc _ _ _
  have e6 : 2 * (b * b) * b = 2 * (b * b * b) := Int.mul_assoc _ _ _
  obtain ⟨bb, hbb⟩ : ∃ bb, bb = b * b := ⟨_, rfl⟩
  obtain ⟨bbb, hbbb⟩ : ∃ x, x = b * b * b := ⟨_, rfl⟩
  rw [show (2 * b * b * b : Int) = 2 * bbb by rw [e5, e6, hbbb]]
  rw [← hbbb] at m5 e6
  rw [← hbb] at m2 e5 e6
  obtain ⟨m2a, m2b⟩ := m2
  obtain ⟨m5a, m5b⟩ := m5
  clear hbb hbbb
  by_cases h1 : -b ≤ 2 * a
  · by_cases h2 : 2 * a < b
    · rw [if_pos ⟨h1, h2⟩]
      go_enter Try.func23, Try.ntmps23
      go_wp2_with fail
      go_ret
      exact ⟨rfl, rfl⟩
    · rw [if_neg (fun h => h2 h.2)]
      go_enter Try.func23, Try.ntmps23
      go_wp2_with fail
      go_ret
      exact ⟨rfl, rfl⟩
  · rw [if_neg (fun h => h1 h.1)]
    go_enter Try.func23, Try.ntmps23
    go_wp2_with fail
    go_ret
    exact ⟨rfl, rfl⟩
set_option maxHeartbeats 2000000 in
set_option maxRecDepth 100000 in
theorem rw2_any (a b : Int) (w : World) (a0 : -81920 ≤ a) (a1 : a ≤ 81920) (b0 : 1 ≤ b) (b1 : b ≤ 2048) :
    Calls Try.prog 23 #[.int .i64 2, .int .i64 a, .int .i64 b] w fun e w' => e = .returned (.int .i64 (if absI a < b then 2 * b * b * (b - absI a) else 0)) ∧ w' = w := by
  have hmx := mx_abs a
  have hA : 0 ≤ absI a := by unfold absI; omega
  generalize absI a = A at hmx hA ⊢
  have m2 := mul_bd (by omega : 0 ≤ b) b1 (by omega : 0 ≤ b) b1
  have e5 : 2 * b * b = 2 * (b * b) := Int.mul_assoc _ _ _
  obtain ⟨bb, hbb⟩ : ∃ bb, bb = b * b := ⟨_, rfl⟩
  rw [← hbb] at m2 e5
  rw [e5]
  obtain ⟨m2a, m2b⟩ := m2
  clear hbb
  by_cases h1 : A < b
  · rw [if_pos h1]
    have m3 := mul_bd (x := 2 * bb) (X := 8388608) (y := b - A) (Y := 2048) (by omega) (by omega) (by omega) (by omega)
    obtain ⟨d, hd⟩ : ∃ d, b - A = d := ⟨_, rfl⟩
    rw [hd] at m3 ⊢
    obtain ⟨r, hr⟩ : ∃ r, 2 * bb * d = r := ⟨_, rfl⟩
    rw [hr] at m3 ⊢
    obtain ⟨m3a, m3b⟩ := m3
    have d1 : 0 ≤ d := by omega
    have d2 : d ≤ 2048 := by omega
    go_enter Try.func23, Try.ntmps23
    go_wp2_with fail
    go_ret
    exact ⟨rfl, rfl⟩
  · rw [if_neg h1]
    go_enter Try.func23, Try.ntmps23
    go_wp2_with fail
    go_ret
    exact ⟨rfl, rfl⟩
set_option maxHeartbeats 4000000 in
set_option maxRecDepth 100000 in
theorem rw3_any (a b : Int) (w : World) (a0 : -81920 ≤ a) (a1 : a ≤ 81920) (b0' : 1 ≤ b) (b1 : b ≤ 2048) :
    Calls Try.prog 23 #[.int .i64 3, .int .i64 a, .int .i64 b] w fun e w' => e = .returned (.int .i64 (cubV (absI a) b)) ∧ w' = w := by
  have hmx := mx_abs a
  have c0 : 0 ≤ absI a := by unfold absI; omega
  generalize absI a = c at hmx c0 ⊢
  have b0 : 0 ≤ b := by omega
  by_cases hc : c < 2 * b
  · have c1 : c ≤ 8192 := by omega
    have m1 := mul_bd c0 c1 c0 c1
    have m2 := mul_bd b0 b1 b0 b1
    have m3 := mul_bd m1.1 m1.2 c0 c1
    have m4 := mul_bd m1.1 m1.2 b0 b1
    have m5 := mul_bd m2.1 m2.2 b0 b1
    have m6 := mul_bd c0 c1 m2.1 m2.2
    have e1 : 3 * c * c = 3 * (c * c) := Int.mul_assoc _ _ _
    have e2 : 3 * c * c * c = 3 * (c * c * c) := by rw [e1, Int.mul_assoc]
    have e3 : 5 * c * c = 5 * (c * c) := Int.mul_assoc _ _ _
    have e4 : 5 * c * c * b = 5 * (c * c * b) := by rw [e3, Int.mul_assoc]
    have e5 : 2 * b * b = 2 * (b * b) := Int.mul_assoc _ _ _
    have e6 : 2 * b * b * b = 2 * (b * b * b) := by rw [e5, Int.mul_assoc]
    have e7 : -c * c = -(c * c) := Int.neg_mul _ _
    have e8 : -c * c * c = -(c * c * c) := by rw [e7, Int.neg_mul]
    have e9 : 8 * c * b = 8 * (c * b) := Int.mul_assoc _ _ _
    have e10 : 8 * c * b * b = 8 * (c * (b * b)) := by rw [e9, Int.mul_assoc, Int.mul_assoc]
    have e11 : 4 * b * b = 4 * (b * b) := Int.mul_assoc _ _ _
    have e12 : 4 * b * b * b = 4 * (b * b * b) := by rw [e11, Int.mul_assoc]
    have m7 := mul_bd c0 c1 b0 b1
    unfold cubV
    rw [e2, e4, e6, e8, e10, e12]
    have E1 : Hid (3 * c * c = 3 * (c * c)) := e1
    obtain ⟨cc, hcc⟩ : ∃ cc, cc = c * c := ⟨_, rfl⟩
    obtain ⟨bb, hbb⟩ : ∃ bb, bb = b * b := ⟨_, rfl⟩
    obtain ⟨ccc, hccc⟩ : ∃ x, x = c * c * c := ⟨_, rfl⟩
    obtain ⟨ccb, hccb⟩ : ∃ x, x = c * c * b := ⟨_, rfl⟩
    obtain ⟨bbb, hbbb⟩ : ∃ x, x = b * b * b := ⟨_, rfl⟩
    obtain ⟨cbb, hcbb⟩ : ∃ x, x = c * (b * b) := ⟨_, rfl⟩
    obtain ⟨cb, hcb⟩ : ∃ x, x = c * b := ⟨_, rfl⟩
    rw [← hccc] at m3 e2 e8 ⊢
    rw [← hccb] at m4 e4 ⊢
    rw [← hbbb] at m5 e6 e12 ⊢
    rw [← hcbb] at m6 e10 ⊢
    rw [← hcc] at m1 e1 e3 e7
    rw [← hbb] at m2 e5 e11
    rw [← hcb] at m7 e9
    rw [e1] at e2
    rw [e3] at e4
    rw [e5] at e6
    rw [e7] at e8
    rw [e9] at e10
    rw [e11] at e12
    obtain ⟨m1a, m1b⟩ := m1
    obtain ⟨m2a, m2b⟩ := m2
    obtain ⟨m3a, m3b⟩ := m3
    obtain ⟨m4a, m4b⟩ := m4
    obtain ⟨m5a, m5b⟩ := m5
    obtain ⟨m6a, m6b⟩ := m6
    obtain ⟨m7a, m7b⟩ := m7
    have n8 : -cc * c = -ccc := e8
    clear hcc hbb hccc hccb hbbb hcbb hcb E1
    by_cases h1 : c < b
    · rw [if_pos h1]
      go_enter Try.func23, Try.ntmps23
      go_wp2_with fail
      go_ret
      exact ⟨rfl, rfl⟩
    · rw [if_neg h1, if_pos hc]
      go_enter Try.func23, Try.ntmps23
      go_wp2_with fail
      go_ret
      exact ⟨rfl, rfl⟩
  · have h1 : ¬ c < b := by omega
    unfold cubV
    rw [if_neg h1, if_neg hc]
    go_enter Try.func23, Try.ntmps23
    go_wp2_with fail
    go_ret
    exact ⟨rfl, rfl⟩
theorem rweight_any (kind a b : Int) (w : World) (hk : kind = 1 ∨ kind = 2 ∨ kind = 3) (a0 : -81920 ≤ a) (a1 : a ≤ 81920) (b0 : 1 ≤ b) (b1 : b ≤ 2048) :
    Calls Try.prog 23 #[.int .i64 kind, .int .i64 a, .int .i64 b] w fun e w' => e = .returned (.int .i64 (wgtR kind a b)) ∧ w' = w := by
  rcases hk with rfl | rfl | rfl
  · exact rw1_any a b w a0 a1 b0 b1
  · exact rw2_any a b w a0 a1 b0 b1
  · exact rw3_any a b w a0 a1 b0 b1
end Go.Proofs.Ytdbbpmadkhedlaa
/- The chapter's examples: known. -/
namespace Go.Proofs.Ytdbbpmadkhedlaa
open Go.RowKit
set_option linter.unusedVariables false
set_option linter.unusedSimpArgs false

theorem shr_none {z : Nat → Int} {n : Nat} {S : Int} (h1 : sumF z n = S) (h2 : missV z S n = 0) (i : Nat) : shrV z n i = flo z S i := by
  unfold shrV; rw [h1, h2]; exact shrK_zero _ _ _ _
theorem tk1 : wlsV 2 2 4 1 = [(0, 6), (1, 2)] := by decide
theorem tk2 : wlsV 3 2 4 1 = [(0, 816), (1, 208)] := by decide
theorem tk1' : tapsL (wlsV 2 2 4 1) = [(0, 49152), (1, 16384)] := by
  rw [tk1]
  have e := shr_none (z := zf [6, 2]) (n := 2) (S := 8) (by decide) (by decide)
  show tpK [(0, 6), (1, 2)] (shrV (zf [6, 2]) 2) 2 = _
  rw [show shrV (zf [6, 2]) 2 = flo (zf [6, 2]) 8 from funext e]
  decide
theorem tk2' : tapsL (wlsV 3 2 4 1) = [(0, 52224), (1, 13312)] := by
  rw [tk2]
  have e := shr_none (z := zf [816, 208]) (n := 2) (S := 1024) (by decide) (by decide)
  show tpK [(0, 816), (1, 208)] (shrV (zf [816, 208]) 2) 2 = _
  rw [show shrV (zf [816, 208]) 2 = flo (zf [816, 208]) 1024 from funext e]
  decide
theorem sk1 : tabI 3 (shrV (zf [1, 1, 1]) 3) = [21846, 21845, 21845] := by
  have o : ordL (rsV (zf [1, 1, 1]) 3) 3 = [0, 1, 2] := ordL_eq (by decide) (by unfold tlt; decide)
  have s : sumF (zf [1, 1, 1]) 3 = 3 := by decide
  have m : missV (zf [1, 1, 1]) 3 3 = 1 := by decide
  have e : shrV (zf [1, 1, 1]) 3 = fun i : Nat => flo (zf [1, 1, 1]) 3 i + if (i : Int) ∈ ([0] : List Int) then 1 else 0 := by
    funext i
    unfold shrV shrK
    rw [s, m, o]
    rfl
  rw [e]
  decide
theorem sz1 : Sz 2 4 1 := ⟨by decide, by decide, by decide, by decide, by decide, by decide⟩
theorem ok1 : shOk [1, 1, 1] := ⟨by decide, by decide, by decide, by decide⟩
set_option maxHeartbeats 4000000 in
set_option maxRecDepth 100000 in
theorem known9_any (w : World) : Calls Try.prog 5 #[] w fun e w' => e = .returned (.bool true) ∧ Q w w' := by
  have C1 := taps_good 2 2 4 1 w (by decide) sz1 (by rw [tk1]; decide)
  have HC2 : Hid (∀ W : World, Calls Try.prog 16 #[.int .i64 3, .int .i64 2, .int .i64 4, .int .i64 1] W fun e w' => ∃ v n, e = .returned (.tuple #[v, .int .i64 0]) ∧ Tl W w' v (tapsL (wlsV 3 2 4 1)) n) := fun W => taps_good 3 2 4 1 W (by decide) sz1 (by rw [tk2]; decide)
  have HC3 : Hid (∀ W : World, Calls Try.prog 17 #[.slice (some ⟨W.heap.size, 0, none⟩) 3 3] (W.alloc (.cells #[.int .i64 1, .int .i64 1, .int .i64 1] 3)) fun e w' => ∃ g, e = .returned (.tuple #[.slice (some ⟨g, 0, none⟩) 3 3, .int .i64 0]) ∧ W.heap.size + 1 ≤ g ∧ IRow w' g [21846, 21845, 21845] ∧ Q (W.alloc (.cells #[.int .i64 1, .int .i64 1, .int .i64 1] 3)) w') := fun W => by
    have h := share_good (.slice (some ⟨W.heap.size, 0, none⟩) 3 3) [1, 1, 1] (W.alloc (.cells #[.int .i64 1, .int .i64 1, .int .i64 1] 3)) (Or.inl ⟨W.heap.size, 0, 3, rfl, fun i hi => by
      have : i = 0 ∨ i = 1 ∨ i = 2 := by simp at hi; omega
      rcases this with rfl | rfl | rfl <;> simp [go_sem]⟩) ok1
    refine h.mono ?_
    rintro e w' ⟨g, h1, h2, h3, h4⟩
    rw [show ([1, 1, 1] : List Int).length = 3 from rfl, sk1] at h3
    exact ⟨g, h1, by simpa using h2, h3, h4⟩
  have HC4 : Hid (∀ W : World, Calls Try.prog 18 #[.int .i64 2] W fun e w' => ∃ v n, e = .returned (.tuple #[v, .int .i64 0]) ∧ Il W w' v [1, 4, 6, 4, 1] n) := fun W => bin_good 2 W (by decide)
  rw [tk1'] at C1
  rw [tk2'] at HC2
  go_enter Try.func5, Try.ntmps5
  go_wp2_with fail
  refine C1.mono ?_
  rintro e w1 ⟨v1, n1, rfl, h1⟩
  have H1 : Hid (Tl w w1 v1 [(0, 49152), (1, 16384)] n1) := h1
  clear C1 h1
  go_wp2_with fail
  refine (HC2.out w1).mono ?_
  rintro e w2 ⟨v2, n2, rfl, h2⟩
  have H2 : Hid (Tl w1 w2 v2 [(0, 52224), (1, 13312)] n2) := h2
  clear h2
  go_wp2_with fail
  refine (HC3.out w2).mono ?_
  rintro e w3 ⟨g3, rfl, _, h3, q3⟩
  have H3 : Hid (IRow w3 g3 [21846, 21845, 21845]) := h3
  have HQ3 : Hid (Q w2 w3) := ((Q.refl w2).cells _ _).trans q3
  clear h3 q3
  go_wp2_with fail
  refine (HC4.out w3).mono ?_
  rintro e w4 ⟨v4, n4, rfl, h4⟩
  have H4 : Hid (Il w3 w4 v4 [1, 4, 6, 4, 1] n4) := h4
  clear h4
  have T1 : Hid (TSl w4 v1 [(0, 49152), (1, 16384)]) := H1.out.tsl.next ((H2.out.q.trans HQ3.out).trans H4.out.q)
  have T2 : Hid (TSl w4 v2 [(0, 52224), (1, 13312)]) := H2.out.tsl.next (HQ3.out.trans H4.out.q)
  have T3 : Hid (ISl w4 (.slice (some ⟨g3, 0, none⟩) 3 3) [21846, 21845, 21845]) := (H3.out.isl 3).next H4.out.q
  have T4 : Hid (ISl w4 v4 [1, 4, 6, 4, 1]) := H4.out.isl
  have HQ4 : Hid (Q w w4) := ((H1.out.q.trans H2.out.q).trans HQ3.out).trans H4.out.q
  clear H1 H2 H3 H4 HQ3 HC2 HC3 HC4
  go_wp2_with fail
  refine (same_any v1 _ [(0, 49152), (1, 16384)] [(0, 49152), (1, 16384)] (w4.alloc (.cells #[.int .i64 0, .int .i64 49152, .int .i64 1, .int .i64 16384] 56)) (T1.out.next ((Q.refl w4).cells _ _)) (Or.inl ⟨w4.heap.size, 0, 2, rfl, fun i e hi => by
    have : i = 0 ∨ i = 1 := by have := (List.getElem?_eq_some_iff.1 hi).1; simp at this; omega
    rcases this with rfl | rfl <;> (cases hi; simp [go_sem])⟩) (by decide) (by decide)).mono ?_
  rintro e w5 ⟨rfl, q5⟩
  rw [decide_eq_true rfl]
  have HQ5 : Hid (Q w4 w5) := ((Q.refl w4).cells _ _).trans q5
  clear q5
  go_wp2_with fail
  refine (same_any v2 _ [(0, 52224), (1, 13312)] [(0, 52224), (1, 13312)] (w5.alloc (.cells #[.int .i64 0, .int .i64 52224, .int .i64 1, .int .i64 13312] 56)) (T2.out.next (HQ5.out.cells _ _)) (Or.inl ⟨w5.heap.size, 0, 2, rfl, fun i e hi => by
    have : i = 0 ∨ i = 1 := by have := (List.getElem?_eq_some_iff.1 hi).1; simp at this; omega
    rcases this with rfl | rfl <;> (cases hi; simp [go_sem])⟩) (by decide) (by decide)).mono ?_
  rintro e w6 ⟨rfl, q6⟩
  rw [decide_eq_true rfl]
  have HQ6 : Hid (Q w4 w6) := (HQ5.out.cells _ _).trans q6
  clear q6 HQ5
  go_wp2_with fail
  refine (ints_any _ _ [21846, 21845, 21845] [21846, 21845, 21845] (w6.alloc (.cells #[.int .i64 21846, .int .i64 21845, .int .i64 21845] 3)) (T3.out.next (HQ6.out.cells _ _)) (Or.inl ⟨w6.heap.size, 0, 3, rfl, fun i hi => by
    have : i = 0 ∨ i = 1 ∨ i = 2 := by simp at hi; omega
    rcases this with rfl | rfl | rfl <;> simp [go_sem]⟩) (by decide) (by decide)).mono ?_
  rintro e w7 ⟨rfl, q7⟩
  rw [decide_eq_true rfl]
  have HQ7 : Hid (Q w4 w7) := (HQ6.out.cells _ _).trans q7
  clear q7 HQ6
  go_wp2_with fail
  refine (ints_any v4 _ [1, 4, 6, 4, 1] [1, 4, 6, 4, 1] (w7.alloc (.cells #[.int .i64 1, .int .i64 4, .int .i64 6, .int .i64 4, .int .i64 1] 3)) (T4.out.next (HQ7.out.cells _ _)) (Or.inl ⟨w7.heap.size, 0, 5, rfl, fun i hi => by
    have : i = 0 ∨ i = 1 ∨ i = 2 ∨ i = 3 ∨ i = 4 := by simp at hi; omega
    rcases this with rfl | rfl | rfl | rfl | rfl <;> simp [go_sem]⟩) (by decide) (by decide)).mono ?_
  rintro e w8 ⟨rfl, q8⟩
  rw [decide_eq_true rfl]
  have HQ8 : Hid (Q w4 w8) := (HQ7.out.cells _ _).trans q8
  clear q8 HQ7
  go_wp2_with fail
  go_ret
  exact ⟨rfl, HQ4.out.trans HQ8.out⟩
end Go.Proofs.Ytdbbpmadkhedlaa
/- The document's Taps: what it refuses. -/
namespace Go.Proofs.Ytdbbpmadkhedlaa
open Go.RowKit
set_option linter.unusedVariables false
set_option linter.unusedSimpArgs false

set_option maxHeartbeats 4000000 in
set_option maxRecDepth 100000 in
theorem rtaps_bad (kind F T i : Int) (w : World) (hE : tapE kind F T i ≠ 0) :
    Calls Try.prog 7 #[.int .i64 kind, .int .i64 F, .int .i64 T, .int .i64 i] w fun e w' => e = .returned (.tuple #[.slice none 0 0, .int .i64 (tapE kind F T i)]) ∧ w' = w := by
  have E : Hid (tapE kind F T i = if 1 ≤ kind ∧ kind ≤ 3 then (if (1 ≤ F ∧ F ≤ 1024) ∧ (1 ≤ T ∧ T ≤ 1024) ∧ 0 ≤ i ∧ i < T then (if F ≤ 15 * T then 0 else 92) else 91) else 90) := rfl
  rw [E.out] at hE ⊢
  clear E
  have HR : Hid (∀ (k : Int) (W : World) (B : Bool), decide (1 ≤ k ∧ k ≤ 1024) = B → Calls Try.prog 21 #[.int .i64 k] W fun e w' => e = .returned (.bool B) ∧ w' = W) := fun k W B h => by rw [← h]; exact r9size_any k W
  by_cases hk : 1 ≤ kind ∧ kind ≤ 3
  · rw [if_pos hk] at hE ⊢
    have k1 : ¬ kind < 1 := by omega
    have k2 : ¬ 3 < kind := by omega
    by_cases hf : 1 ≤ F ∧ F ≤ 1024
    · by_cases ht : 1 ≤ T ∧ T ≤ 1024
      · have HD : Hid _ := And.intro (decide_eq_true hf) (decide_eq_true ht)
        by_cases h0 : 0 ≤ i
        · by_cases hi : i < T
          · rw [if_pos ⟨hf, ht, h0, hi⟩] at hE ⊢
            by_cases hft : F ≤ 15 * T
            · rw [if_pos hft] at hE; exact absurd rfl hE
            · rw [if_neg hft]
              have a1 : ¬ i < 0 := by omega
              have a2 : ¬ T ≤ i := by omega
              have a3 : 15 * T < F := by omega
              obtain ⟨t1, t2⟩ := ht
              clear hE hk hf hft h0
              go_enter Try.func7, Try.ntmps7
              go_wp2_with (go_at_call 21; first | (refine (HR.out F _ true HD.out.1).mono ?_; rintro e w' ⟨rfl, rfl⟩) | (refine (HR.out T _ true HD.out.2).mono ?_; rintro e w' ⟨rfl, rfl⟩))
              go_ret2
              exact ⟨rfl, rfl⟩
          · rw [if_neg (fun h => hi h.2.2.2)]
            have a1 : ¬ i < 0 := by omega
            have a2 : T ≤ i := by omega
            clear hE hk hf ht h0 hi
            go_enter Try.func7, Try.ntmps7
            go_wp2_with (go_at_call 21; first | (refine (HR.out F _ true HD.out.1).mono ?_; rintro e w' ⟨rfl, rfl⟩) | (refine (HR.out T _ true HD.out.2).mono ?_; rintro e w' ⟨rfl, rfl⟩))
            go_ret2
            exact ⟨rfl, rfl⟩
        · rw [if_neg (fun h => h0 h.2.2.1)]
          have a1 : i < 0 := by omega
          clear hE hk hf ht h0
          go_enter Try.func7, Try.ntmps7
          go_wp2_with (go_at_call 21; first | (refine (HR.out F _ true HD.out.1).mono ?_; rintro e w' ⟨rfl, rfl⟩) | (refine (HR.out T _ true HD.out.2).mono ?_; rintro e w' ⟨rfl, rfl⟩))
          go_ret2
          exact ⟨rfl, rfl⟩
      · rw [if_neg (fun h => ht h.2.1)]
        have HD : Hid _ := And.intro (decide_eq_true hf) (decide_eq_false ht)
        clear hE hk hf ht
        go_enter Try.func7, Try.ntmps7
        go_wp2_with (go_at_call 21; first | (refine (HR.out F _ true HD.out.1).mono ?_; rintro e w' ⟨rfl, rfl⟩) | (refine (HR.out T _ false HD.out.2).mono ?_; rintro e w' ⟨rfl, rfl⟩))
        go_ret2
        exact ⟨rfl, rfl⟩
    · rw [if_neg (fun h => hf h.1)]
      have HD : Hid _ := And.intro (decide_eq_false hf) (decide_eq_false hf)
      clear hE hk hf
      go_enter Try.func7, Try.ntmps7
      go_wp2_with (go_at_call 21; first | (refine (HR.out F _ false HD.out.1).mono ?_; rintro e w' ⟨rfl, rfl⟩))
      go_ret2
      exact ⟨rfl, rfl⟩
  · rw [if_neg hk]
    by_cases k1 : kind < 1
    · clear hE hk HR
      go_enter Try.func7, Try.ntmps7
      go_wp2_with fail
      go_ret2
      exact ⟨rfl, rfl⟩
    · have k2 : 3 < kind := by omega
      clear hE hk HR
      go_enter Try.func7, Try.ntmps7
      go_wp2_with fail
      go_ret2
      exact ⟨rfl, rfl⟩
end Go.Proofs.Ytdbbpmadkhedlaa
/- The document's Taps, of sizes that may be. -/
namespace Go.Proofs.Ytdbbpmadkhedlaa
open Go.RowKit
set_option linter.unusedVariables false
set_option linter.unusedSimpArgs false

theorem anyT_none {zs : List Int} (h : ∀ e ∈ zs, -1099511627776 ≤ e ∧ e ≤ 1099511627776) : ∀ k, k ≤ zs.length → anyT zs k = false
  | 0, _ => rfl
  | k + 1, hk => by
    show (anyT zs k || tooB (zs.getD k 0)) = false
    have hm := h zs[k] (List.getElem_mem (by omega))
    rw [anyT_none h k (by omega), List.getD_eq_getElem?_getD, List.getElem?_eq_getElem (by omega), Option.getD_some, tooB_of (by omega) (by omega)]; rfl
theorem wgtR_size {kind m a : Int} (m0 : 1 ≤ m) (m1 : m ≤ 1024) : -17179869184 ≤ wgtR kind a (2 * m) ∧ wgtR kind a (2 * m) ≤ 17179869184 := by
  have b0 : 0 ≤ 2 * m := by omega
  have b1 : 2 * m ≤ 2048 := by omega
  have m2 := mul_bd b0 b1 b0 b1
  have m3 := mul_bd m2.1 m2.2 b0 b1
  have ha : 0 ≤ absI a := by unfold absI; omega
  have e5 : 2 * (2 * m) * (2 * m) = 2 * (2 * m * (2 * m)) := Int.mul_assoc _ _ _
  have e6 : 2 * (2 * m * (2 * m)) * (2 * m) = 2 * (2 * m * (2 * m) * (2 * m)) := Int.mul_assoc _ _ _
  unfold wgtR
  split
  · split
    · rw [e5, e6]; omega
    · omega
  · split
    · split
      · rename_i h
        have := mul_bd (x := 2 * (2 * m * (2 * m))) (X := 8388608) (y := 2 * m - absI a) (Y := 2048) (by omega) (by omega) (by omega) (by omega)
        rw [e5]; omega
      · omega
    · exact cub_size ha b0 b1
theorem tms_bound {kind : Int} {F T i : Nat} (hk : kind = 1 ∨ kind = 2 ∨ kind = 3) (h : Sz F T i) : ∀ e ∈ tms (mulR kind (max F T : Nat)) (wlsV kind F T i), -1099511627776 ≤ e.2 ∧ e.2 ≤ 1099511627776 := by
  intro e he
  have hm : 0 < ((max F T : Nat) : Int) := by have := h.f1; omega
  have hw := (win_facts (kind := kind) h).2.1
  have hn : winV kind F T i ≤ 62 := by unfold winV; omega
  unfold wlsV at he
  rw [← wrun_tms (f := wfV kind F T i) (g := wfR kind F T i) (Int.ne_of_gt (mulR_pos hm)) (fun k => wgtR_eq hk)] at he
  have := wrun_bound (f := wfR kind F T i) (pl := plV F) (a := fstV kind F T i) (B := 17179869184) (by decide) (fun k => wgtR_size (by omega) (by have := h.f2; have := h.t2; omega)) (winV kind F T i) e he
  have h62 : (winV kind F T i : Int) * 17179869184 ≤ 62 * 17179869184 := Int.mul_le_mul_of_nonneg_right (by omega) (by decide)
  omega
theorem rea_tdiv {m T : Nat} (hT : 1 ≤ T) : (2 * (m : Int)).tdiv (T : Int) = 2 * (m : Int) / (T : Int) := Int.tdiv_eq_ediv_of_nonneg (by omega)
set_option maxHeartbeats 8000000 in
set_option maxRecDepth 1000000 in
theorem rtaps_good (kind : Int) (F T i : Nat) (w : World) (hk : kind = 1 ∨ kind = 2 ∨ kind = 3) (h : Sz F T i) :
    Calls Try.prog 7 #[.int .i64 kind, .int .i64 (F : Int), .int .i64 (T : Int), .int .i64 (i : Int)] w fun e w' => ∃ v n, e = .returned (.tuple #[v, .int .i64 0]) ∧ Tl w w' v (tapsL (wlsV kind F T i)) n := by
  have SF := r9size_any (F : Int) w
  have ST := r9size_any (T : Int) w
  rw [decide_eq_true (by have := h.f1; have := h.f2; omega)] at SF
  rw [decide_eq_true (by have := h.t1; have := h.t2; omega)] at ST
  have k1 : ¬ kind < 1 := by omega
  have k2 : ¬ 3 < kind := by omega
  have a1 : ¬ (i : Int) < 0 := by omega
  have a2 : ¬ (T : Int) ≤ (i : Int) := by have := h.i; omega
  have a3 : ¬ 15 * (T : Int) < (F : Int) := by have := h.ft; omega
  have hmx : ∀ (ts : Array TypeId) (t : TypeId) (w : World), (Builtin.max_ ts t #[.int .i64 (F : Int), .int .i64 (T : Int)]).run Try.prog w = .ok (.int .i64 ((max F T : Nat) : Int)) w := fun ts t w => by
    rw [run_mx2]; congr 2; omega
  obtain ⟨M1, M2⟩ := mid_size h
  obtain ⟨R1, R2, _⟩ := reaR_bd h
  have hm1 : 1 ≤ max F T := by have := h.f1; omega
  have hm2 : max F T ≤ 1024 := by have := h.f2; have := h.t2; omega
  have etd := rea_tdiv (m := max F T) (T := T) h.t1
  have eRR : 2 * ((max F T : Nat) : Int) / (T : Int) + 2 = reaR F T := rfl
  have HMd : Hid (midV F T i / (2 * (T : Int)) = midR F T i) := rfl
  have HWl := wls_doc hk h
  have HBd : Hid (∀ j, j ≤ 100 → ∀ e ∈ wrun (wfR kind F T i) (plV F) (midR F T i - reaR F T) j, -1717986918400 ≤ e.2 ∧ e.2 ≤ 1717986918400) := fun j hj e he => by
    have := wrun_bound (f := wfR kind F T i) (pl := plV F) (a := midR F T i - reaR F T) (B := 17179869184) (by decide) (fun k => wgtR_size (by omega) (by omega)) j e he
    omega
  have HWs : Hid (∀ k, -17179869184 ≤ wfR kind F T i k ∧ wfR kind F T i k ≤ 17179869184) := fun k => wgtR_size (by omega) (by omega)
  have HDw : Hid (∀ k, midR F T i - reaR F T ≤ k → k ≤ midR F T i + 1 + reaR F T → -81920 ≤ 2 * (T : Int) * k - midV F T i ∧ 2 * (T : Int) * k - midV F T i ≤ 81920) := fun k x1 x2 => by have := mid_win h k x1 x2; omega
  have HCk : Hid (∀ (k d : Int) (W : World), d = 2 * (T : Int) * k - midV F T i → -81920 ≤ d → d ≤ 81920 → Calls Try.prog 23 #[.int .i64 kind, .int .i64 d, .int .i64 (2 * ((max F T : Nat) : Int))] W fun e w' => e = .returned (.int .i64 (wfR kind F T i k)) ∧ w' = W) := fun k d W hd h1 h2 => by
    have := rweight_any kind d (2 * ((max F T : Nat) : Int)) W hk h1 h2 (by omega) (by omega)
    rw [hd] at this ⊢
    exact this
  have HT := tapsL_tms (l := mulR kind (max F T : Nat)) (mulR_pos (by omega)) (wlsV kind F T i)
  have hLb := tms_bound hk h
  have hLs : 0 < sndSum (tms (mulR kind (max F T : Nat)) (wlsV kind F T i)) := by rw [sndSum_tms]; exact Int.mul_pos (mulR_pos (by omega)) (wls_pos hk h)
  have hLl : (tms (mulR kind (max F T : Nat)) (wlsV kind F T i)).length ≤ 62 := by rw [tms_len]; exact (wls_bound h).1
  rw [← HT]
  rw [← HWl] at HT hLb hLs hLl ⊢
  obtain ⟨N, hN⟩ : ∃ N : Nat, nR F T = N := ⟨_, rfl⟩
  have hNR : 2 * reaR F T + 2 = (N : Int) := by rw [← hN]; unfold nR; omega
  rw [hN] at HT hLb hLs hLl ⊢
  obtain ⟨mx, hmm⟩ : ∃ mx : Nat, max F T = mx := ⟨_, rfl⟩
  rw [hmm] at hmx HCk etd eRR hm1 hm2
  obtain ⟨rq, hrq⟩ : ∃ rq, 2 * (mx : Int) / (T : Int) = rq := ⟨_, rfl⟩
  rw [hrq] at etd eRR
  obtain ⟨re, hre⟩ : ∃ re, reaR F T = re := ⟨_, rfl⟩
  rw [hre] at eRR R1 R2 hNR HDw HBd HT hLb hLs hLl ⊢
  obtain ⟨mi, hmi⟩ : ∃ mi, midV F T i = mi := ⟨_, rfl⟩
  have hmi' : (2 * (i : Int) + 1) * (F : Int) - (T : Int) = mi := hmi
  rw [hmi] at M1 M2 HMd HDw HCk
  obtain ⟨md, hmd⟩ : ∃ md, midR F T i = md := ⟨_, rfl⟩
  rw [hmd] at HMd HDw HBd HT hLb hLs hLl ⊢
  obtain ⟨pr, hpr⟩ : ∃ pr, (2 * (i : Int) + 1) * (F : Int) = pr := ⟨_, rfl⟩
  rw [hpr] at hmi'
  obtain ⟨st, hst⟩ : ∃ st : Int, 2 * (T : Int) = st := ⟨_, rfl⟩
  rw [hst] at HMd HDw HCk
  obtain ⟨f1, f2, t1, t2, hi, ft⟩ := h
  obtain ⟨F1, hF1⟩ : ∃ F1 : Nat, F = F1 + 1 := ⟨F - 1, by omega⟩
  have eF1 : (F : Int) - 1 = (F1 : Int) := by omega
  have hst1 : 0 < st := by omega
  have hst2 : st ≤ 2048 := by omega
  have HP : Hid (∀ k, plV F k = min (max k 0) (F1 : Int)) := fun k => by unfold plV; rw [eF1]
  have Cf := rfloor_any mi st w hst1 (by omega) (by omega) (by omega)
  rw [HMd.out] at Cf
  have d0 := HDw.out md (by omega) (by omega)
  have hmd1 : -90000 ≤ md := lo_of (B := 90000) (s := st) (by omega) (by decide) (by omega)
  have hmd2 : md ≤ 2200000 := hi_of (B := 2200000) (s := st) (by omega) (by decide) (by omega)
  have hpr1 : -2048 ≤ pr := by omega
  have hpr2 : pr ≤ 4194304 := by omega
  have hT0 : ¬ (T : Int) = 0 := by omega
  have hT0' : ((T : Int) == 0) = false := by simp; omega
  have hrq1 : 2 ≤ rq := by omega
  have hrq2 : rq ≤ 30 := by omega
  generalize hwf : wfR kind F T i = wf at *
  have HLL : Hid ((∀ e ∈ wrun wf (plV F) (md - re) N, -1099511627776 ≤ e.2 ∧ e.2 ≤ 1099511627776) ∧ 0 < sndSum (wrun wf (plV F) (md - re) N) ∧ (wrun wf (plV F) (md - re) N).length ≤ 62) := ⟨hLb, hLs, hLl⟩
  obtain ⟨fs, hfs⟩ : ∃ fs, md - re = fs := ⟨_, rfl⟩
  rw [hfs] at HDw HBd HLL ⊢
  have hNf : fs + (N : Int) = md + 1 + re + 1 := by omega
  have hN2 : N ≤ 66 := by omega
  clear hLb hLs hLl HT HWl hwf hmi hmd hre hrq hN hF1 hmm d0 HMd hk
  go_enter Try.func7, Try.ntmps7
  go_wp2_with (first | (go_at_call 21; first | (refine SF.mono ?_; rintro e w' ⟨rfl, hw⟩; obtain rfl := hw.symm; clear hw) | (refine ST.mono ?_; rintro e w' ⟨rfl, hw⟩; obtain rfl := hw.symm; clear hw)) | (go_at_call 22; refine Cf.mono ?_; rintro e w' ⟨rfl, hw⟩; obtain rfl := hw.symm; clear hw))
  clear SF ST Cf hmx
  go_loopg [13, 14, 15] N (fun gh s13 s14 s15 wr => ∃ (j n : Nat) (k : Int) (aP aW : Option Addr) (cP cW : Nat), s13 = .slice aP n cP ∧ s14 = .slice aW n cW ∧ s15 = .int .i64 k ∧ Hid (fs + (j : Int) = k) ∧ j ≤ N ∧ gh = N - j ∧ n ≤ j ∧ Hid (Wl w wr (.slice aP n cP) (.slice aW n cW) (wrun wf (plV F) fs j) n))
  case atStart => exact ⟨0, 0, fs, none, none, 0, 0, rfl, rfl, rfl, (show fs + ((0 : Nat) : Int) = fs by omega), Nat.zero_le _, rfl, Nat.le_refl _, Wl.start w⟩
  case round =>
    obtain ⟨j, n, k, aP, aW, cP, cW, rfl, rfl, rfl, HK, hj, rfl, hnj, HL⟩ := hrel
    by_cases hlt : j < N
    · have hk0 := HK.out
      have hkl : k ≤ md + 1 + re := by omega
      obtain ⟨pq, hpq⟩ : ∃ pq, st * k = pq := ⟨_, rfl⟩
      obtain ⟨d, hd⟩ : ∃ d, pq - mi = d := ⟨_, rfl⟩
      have bd := HDw.out k (by omega) (by omega)
      rw [hpq, hd] at bd
      obtain ⟨bd1, bd2⟩ := bd
      have bp1 : -16777216 ≤ pq := by omega
      have bp2 : pq ≤ 16777216 := by omega
      have bk1 : -100000 ≤ k := by omega
      have bk2 : k ≤ 2201248 := by omega
      have hd2 : pq - pr + (T : Int) = d := by omega
      have C := HCk.out k d wr (by rw [hpq, hd]) bd1 bd2
      obtain ⟨nn, hnn⟩ : ∃ nn, wf k = nn := ⟨_, rfl⟩
      rw [hnn] at C
      have bn := HWs.out k
      rw [hnn] at bn
      obtain ⟨bn1, bn2⟩ := bn
      have HX : Hid (wrun wf (plV F) fs (j + 1) = wput (wrun wf (plV F) fs j) (plV F k) nn) := by
        show wput (wrun wf (plV F) fs j) (plV F (fs + j)) (wf (fs + j)) = _
        rw [hk0, hnn]
      have HBj := HBd.out j (by omega)
      have HBJ : Hid _ := HBj
      have HK2 : Hid (fs + ((j + 1 : Nat) : Int) = k + 1) := by show fs + ((j + 1 : Nat) : Int) = k + 1; omega
      clear HBj hnn hk0 hd HK
      go_wp2_with fail
      refine C.mono ?_
      rintro e w5 ⟨rfl, hw⟩
      obtain rfl := hw.symm
      clear C hw
      by_cases hz : nn = 0
      · subst hz
        have HL6 : Hid (Wl w wr (.slice aP n cP) (.slice aW n cW) (wrun wf (plV F) fs (j + 1)) n) := by rw [HX.out, wput_zero]; exact HL.out
        clear HL HX
        go_wp2_with fail
        go_roundg (N - (j + 1))
        case measure => go_light; omega
        case rel => go_light; exact ⟨j + 1, n, k + 1, aP, aW, cP, cW, rfl, rfl, rfl, HK2, by omega, rfl, by omega, HL6⟩
      · have hz' : (nn == 0) = false := by simpa using hz
        have hmxk : ∀ (ts : Array TypeId) (t : TypeId) (w : World), (Builtin.max_ ts t #[.int .i64 k, .int .i64 0]).run Try.prog w = .ok (.int .i64 (max k 0)) w := fun ts t w => run_mx2 ts t _ _ w
        obtain ⟨mk, hmk⟩ : ∃ mk, max k 0 = mk := ⟨_, rfl⟩
        rw [hmk] at hmxk
        have hmnk : ∀ (ts : Array TypeId) (t : TypeId) (w : World), (Builtin.min_ ts t #[.int .i64 mk, .int .i64 (F1 : Int)]).run Try.prog w = .ok (.int .i64 (min mk (F1 : Int))) w := fun ts t w => run_mn2 ts t _ _ w
        obtain ⟨p, hp⟩ : ∃ p, min mk (F1 : Int) = p := ⟨_, rfl⟩
        rw [hp] at hmnk
        have hpl : plV F k = p := by rw [HP.out k, hmk, hp]
        rw [hpl] at HX
        clear hmk hp hpl
        rcases wput_cases (wrun wf (plV F) fs j) p nn with ⟨_, e⟩ | ⟨_, he, hne⟩ | ⟨M, x, _, hM, he⟩
        · exact absurd e hz
        · -- a new place
          obtain ⟨gP, c2, x2, gW, c4, x4, r1, r2, HN6⟩ := HL.out.app p nn (by omega)
          have HL6 : Hid (Wl w x4 (.slice (some ⟨gP, 0, none⟩) (n + 1) c2) (.slice (some ⟨gW, 0, none⟩) (n + 1) c4) (wrun wf (plV F) fs (j + 1)) (n + 1)) := by rw [HX.out, he]; exact HN6
          clear HN6
          by_cases hn0 : n = 0
          · subst hn0
            clear HL HX hne he
            go_wp2_with (at_builtin; go_must (first | refine wpList_appK (.tmp 127) (.tmp 129) 51 rfl rfl (by simp [Act.eval, Act.put]) (by simp [Act.eval, Act.put]) r1 ?_ | refine wpList_appK (.tmp 131) (.tmp 133) 51 rfl rfl (by simp [Act.eval, Act.put]) (by simp [Act.eval, Act.put]) r2 ?_))
            go_roundg (N - (j + 1))
            case measure => go_light; omega
            case rel => go_light; exact ⟨j + 1, 0 + 1, k + 1, _, _, _, _, rfl, rfl, rfl, HK2, by omega, rfl, by omega, HL6⟩
          · obtain ⟨n', hn'⟩ : ∃ n', n = n' + 1 := ⟨n - 1, by omega⟩
            have en' : (n : Int) - 1 = (n' : Int) := by omega
            have hlen := HL.out.len
            obtain ⟨M, ⟨pp, xx⟩, hM⟩ : ∃ M e, wrun wf (plV F) fs j = M ++ [e] := by
              have hne0 : wrun wf (plV F) fs j ≠ [] := fun e => by rw [e] at hlen; exact hn0 hlen
              exact ⟨_, _, (List.dropLast_concat_getLast hne0).symm⟩
            have hpp : pp ≠ p := hne (pp, xx) (by rw [hM]; simp)
            rw [hM] at HL
            obtain ⟨g1, d1, g2, d2, e1, e2, e3, k1, k2, k3, _⟩ := HL.out.last
            injection e1 with e1a e1b e1c
            injection e2 with e2a e2b e2c
            subst e1a e1c e2a e2c
            have hM1 : M.length = n' := by omega
            rw [hM1] at k1
            have hpp' : (pp == p) = false := by simpa using hpp
            have hn2 : (0 : Int) ≤ (n' : Int) := by omega
            have hn3 : (n' : Int) < (n : Int) := by omega
            have hn4 : n' < n := by omega
            have hn5 : 0 < n := by omega
            have hn6 : (0 : Int) < (n : Int) := by omega
            clear HL HX hne he hlen hM e3 k2 k3 e1b e2b hM1 hn'
            go_wp2_with (at_builtin; go_must (first | refine wpList_appK (.tmp 127) (.tmp 129) 51 rfl rfl (by simp [Act.eval, Act.put]) (by simp [Act.eval, Act.put]) r1 ?_ | refine wpList_appK (.tmp 131) (.tmp 133) 51 rfl rfl (by simp [Act.eval, Act.put]) (by simp [Act.eval, Act.put]) r2 ?_))
            go_roundg (N - (j + 1))
            case measure => go_light; omega
            case rel => go_light; exact ⟨j + 1, n + 1, k + 1, _, _, _, _, rfl, rfl, rfl, HK2, by omega, rfl, by omega, HL6⟩
        · -- the last place again
          have bx := HBJ.out (p, x) (by rw [hM]; simp)
          simp only at bx
          obtain ⟨bx1, bx2⟩ := bx
          rw [hM] at HL
          obtain ⟨g1, d1, g2, d2, e1, e2, e3, k1, k2, k3, kS⟩ := HL.out.last
          injection e1 with e1a e1b e1c
          injection e2 with e2a e2b e2c
          subst e1a e1c e2a e2c
          obtain ⟨n', hM1⟩ : ∃ n', M.length = n' := ⟨_, rfl⟩
          rw [hM1] at k1 k2 k3 kS e3
          have en' : (n : Int) - 1 = (n' : Int) := by omega
          have hn2 : (0 : Int) ≤ (n' : Int) := by omega
          have hn3 : (n' : Int) < (n : Int) := by omega
          have hn4 : n' < n := by omega
          have hn5 : 0 < n := by omega
          have hn6 : (0 : Int) < (n : Int) := by omega
          have hpp' : (p == p) = true := by simp
          have HL6 : Hid (Wl w (wr.setCell ⟨g2, n', none⟩ (.int .i64 (x + nn))) (.slice (some ⟨g1, 0, none⟩) n cP) (.slice (some ⟨g2, 0, none⟩) n cW) (wrun wf (plV F) fs (j + 1)) n) := by rw [HX.out, he]; exact kS (x + nn)
          clear HL HX he hM kS e3 e1b e2b hM1
          go_wp2_with fail
          generalize wr.setCell ⟨g2, n', none⟩ (.int .i64 (x + nn)) = w6 at HL6 ⊢
          go_roundg (N - (j + 1))
          case measure => go_light; omega
          case rel => go_light; exact ⟨j + 1, n, k + 1, _, _, _, _, rfl, rfl, rfl, HK2, by omega, rfl, by omega, HL6⟩
    · have hkl : ¬ k ≤ md + 1 + re := by have := HK.out; omega
      obtain rfl : j = N := by omega
      clear HK
      obtain ⟨hb1, hb2, hb3⟩ := HLL.out
      generalize hLe : wrun wf (plV F) fs j = L at HL hb1 hb2 hb3 ⊢
      have hlen := HL.out.len
      have hL0 : 1 ≤ L.length := by
        cases L with
        | nil => exact absurd hb2 (by decide)
        | cons _ _ => simp
      have Csh := rshare_good (.slice aW n cW) (L.map Prod.snd) wr (own_isl HL.out.w (by rw [List.length_map]; exact hlen.symm)) ⟨by rw [List.length_map]; exact hL0, by rw [List.length_map]; omega, anyT_none (fun e he => by
        obtain ⟨x, hx, rfl⟩ := List.mem_map.1 he
        exact hb1 x hx) _ (Nat.le_refl _), by rw [List.length_map, ← sndSum_zf]; exact hb2⟩
      rw [List.length_map, ← hlen] at Csh
      have HT : Hid (tapsL L = tpK L (shrV (zf (L.map Prod.snd)) n) n) := by show tapsL L = _; unfold tapsL; rw [← hlen]
      generalize shrV (zf (L.map Prod.snd)) n = sh at Csh HT
      have HLn : Hid (n = L.length) := hlen
      have hn62 : n ≤ 62 := by omega
      have HLE : Hid (wrun wf (plV F) fs j = L) := hLe
      clear hlen hL0 hb1 hb2 hb3 hLe HBd HWs HDw HCk HLL HP etd
      go_wp2_with fail
      refine Csh.mono ?_
      rintro e w4 ⟨g, rfl, hg, hrow, q4⟩
      have HR : Hid (IRow w4 g (tabI n sh)) := hrow
      have HW4 : Hid (Wl w w4 (.slice aP n cP) (.slice aW n cW) L n) := HL.out.next q4
      have HQ4 : Hid (Q w w4) := HL.out.q.trans q4
      clear Csh hg hrow q4 HL
      go_wp2_with fail
      go_loopg [20, 21] n (fun gh s20 s21 wr => ∃ (j k : Nat) (ad : Option Addr) (c : Nat), s20 = .slice ad k c ∧ s21 = .int .i64 (j : Int) ∧ j ≤ n ∧ gh = n - j ∧ k ≤ j ∧ Hid (Tl w4 wr (.slice ad k c) (tpK L sh j) k))
      case atStart => exact ⟨0, 0, none, 0, rfl, rfl, Nat.zero_le _, rfl, Nat.le_refl _, Tl.start w4⟩
      case round =>
        obtain ⟨j, k, ad, c, rfl, rfl, hj, rfl, hkj, HL⟩ := hrel
        by_cases hlt : j < n
        · have hltz : (j : Int) < (n : Int) := by omega
          have c1 := HL.out.q.cell (HR.out.cell j _ (tabI_at hlt))
          obtain ⟨x, hx⟩ : ∃ x, sh j = x := ⟨_, rfl⟩
          rw [hx] at c1
          by_cases hz : x = 0
          · subst hz
            have HL2 : Hid (Tl w4 wr (.slice ad k c) (tpK L sh (j + 1)) k) := by
              show Tl w4 wr _ (if sh j = 0 then tpK L sh j else _) k
              rw [if_pos hx]; exact HL.out
            clear HL hx
            go_wp2_with fail
            go_roundg (n - (j + 1))
            case measure => go_light; omega
            case rel => go_light; exact ⟨j + 1, k, ad, c, rfl, by simp, by omega, rfl, by omega, HL2⟩
          · have hz' : (x == 0) = false := by simpa using hz
            have hz2 : (x != 0) = true := by simpa using hz
            obtain ⟨e, he⟩ : ∃ e, L[j]? = some e := ⟨_, List.getElem?_eq_getElem (by have := HLn.out; omega)⟩
            obtain ⟨p, y⟩ := e
            obtain ⟨gP, rfl⟩ : ∃ gP, aP = some ⟨gP, 0, none⟩ := by
              rcases HW4.out.p.2 with ⟨_, e⟩ | ⟨g', c', cur, e1, _⟩
              · omega
              · injection e1 with e1; exact ⟨g', e1⟩
            have c2 := HL.out.q.cell (own_at HW4.out.p (i := j) (z := p) (by rw [List.getElem?_map, he]; rfl) (by rw [List.length_map]; exact HLn.out.symm))
            have HLe : Hid (sh j = x ∧ L[j]? = some (p, y)) := ⟨hx, he⟩
            have n0 := qw_some wr
            have f0 := qw_cell c1
            have f1 := qw_cell c2
            clear hx he
            go_wp2_with fail
            refine wp_region_mk [0, 1, 2, 3, 4, 5, 6, 7, 8, 9] [[10, 11, 12]] 3 _ (by kernel_rfl) (by kernel_rfl) rfl (by kernel_rfl) ?_
            simp only [List.filterMap_cons, List.filterMap_nil, List.getElem?_cons_zero, List.getElem?_cons_succ]
            repeat (first | go_big_quiet_step (fail) | quiet_step (fail))
            refine wpQuiet_nil ?_
            intro x5 hx5
            clear f0 f1 n0 c1 c2
            obtain ⟨g2, c3, x6, r1, HN⟩ := (HL.out.next hx5).app p x (by omega)
            have HL2 : Hid (Tl w4 x6 (.slice (some ⟨g2, 0, none⟩) (k + 1) c3) (tpK L sh (j + 1)) (k + 1)) := by
              show Tl w4 x6 _ (if sh j = 0 then tpK L sh j else tpK L sh j ++ [((L.getD j (0, 0)).1, sh j)]) (k + 1)
              rw [if_neg (by rw [HLe.out.1]; exact hz), HLe.out.1, List.getD_eq_getElem?_getD, HLe.out.2]
              exact HN
            refine tree_run 10 rfl rfl (v := .slice (some ⟨x5.heap.size, 0, none⟩) 1 1) (x' := x5.alloc (.cells #[.int .i64 p, .int .i64 x] 56)) (by simp [execOp, go_sem]) (hx5.cells _ _) ?_
            refine tree_runF 11 rfl rfl rfl (v := .slice (some ⟨g2, 0, none⟩) (k + 1) c3) (x' := x6) (by simp [execOp, resolve, invoke, builtin, Act.eval, Act.put, r1]) ?_
            refine tree_runF 12 rfl rfl rfl (v := .slice (some ⟨g2, 0, none⟩) (k + 1) c3) (x' := x6) (by simp [execOp, go_sem]) ?_
            refine tree_nil ?_
            clear HN r1 hx5 HL HLe
            go_wp2_with fail
            go_roundg (n - (j + 1))
            case measure => go_light; omega
            case rel => go_light; exact ⟨j + 1, k + 1, _, _, rfl, by simp, by omega, rfl, by omega, HL2⟩
        · have hge : ¬ (j : Int) < (n : Int) := by omega
          obtain rfl : j = n := by omega
          go_wp2_with fail
          go_ret2
          exact ⟨_, rfl, k, by rw [HLE.out, HT.out]; exact HL.out.base HQ4.out⟩
end Go.Proofs.Ytdbbpmadkhedlaa
/- Taps, both ways, whatever comes in. -/
namespace Go.Proofs.Ytdbbpmadkhedlaa
open Go.RowKit
set_option linter.unusedVariables false
set_option linter.unusedSimpArgs false

/-- The taps that are told, whatever comes in. -/
def tpA (kind F T i : Int) : List (Int × Int) := if tapE kind F T i = 0 then tapsL (wlsV kind F.toNat T.toNat i.toNat) else []
theorem tapE_ok {kind F T i : Int} (h : tapE kind F T i = 0) : (kind = 1 ∨ kind = 2 ∨ kind = 3) ∧ Sz F.toNat T.toNat i.toNat ∧ ((F.toNat : Nat) : Int) = F ∧ ((T.toNat : Nat) : Int) = T ∧ ((i.toNat : Nat) : Int) = i := by
  unfold tapE at h
  split at h
  · split at h
    · split at h
      · rename_i h1 h2 h3
        exact ⟨by omega, ⟨by omega, by omega, by omega, by omega, by omega, by omega⟩, by omega, by omega, by omega⟩
      · cases h
    · cases h
  · cases h
theorem tpA_len (kind F T i : Int) : (tpA kind F T i).length ≤ 62 := by
  unfold tpA
  split
  · rename_i h
    obtain ⟨hk, hz, _⟩ := tapE_ok h
    unfold tapsL
    exact Nat.le_trans (tpK_len _ _ _) (wls_bound hz).1
  · exact Nat.zero_le _
theorem taps_all (kind F T i : Int) (w : World) : Calls Try.prog 16 #[.int .i64 kind, .int .i64 F, .int .i64 T, .int .i64 i] w fun e w' => ∃ v n, e = .returned (.tuple #[v, .int .i64 (tapE kind F T i)]) ∧ Tl w w' v (tpA kind F T i) n := by
  by_cases h : tapE kind F T i = 0
  · obtain ⟨hk, hz, e1, e2, e3⟩ := tapE_ok h
    have C := taps_good kind F.toNat T.toNat i.toNat w hk hz (wls_pos hk hz)
    rw [e1, e2, e3] at C
    unfold tpA
    rw [if_pos h, h]
    exact C
  · refine (taps_bad kind F T i w h).mono ?_
    rintro e w' ⟨h1, rfl⟩
    unfold tpA
    rw [if_neg h]
    exact ⟨_, 0, h1, Tl.start _⟩
theorem rtaps_all (kind F T i : Int) (w : World) : Calls Try.prog 7 #[.int .i64 kind, .int .i64 F, .int .i64 T, .int .i64 i] w fun e w' => ∃ v n, e = .returned (.tuple #[v, .int .i64 (tapE kind F T i)]) ∧ Tl w w' v (tpA kind F T i) n := by
  by_cases h : tapE kind F T i = 0
  · obtain ⟨hk, hz, e1, e2, e3⟩ := tapE_ok h
    have C := rtaps_good kind F.toNat T.toNat i.toNat w hk hz
    rw [e1, e2, e3] at C
    unfold tpA
    rw [if_pos h, h]
    exact C
  · refine (rtaps_bad kind F T i w h).mono ?_
    rintro e w' ⟨h1, rfl⟩
    unfold tpA
    rw [if_neg h]
    exact ⟨_, 0, h1, Tl.start _⟩
/-- Cells that may be written over, of a list of taps that is the call's own. -/
def Wr2 (w0 wr : World) (ad : Option Addr) (n : Nat) : Prop := n = 0 ∨ ∃ g, ad = some ⟨g, 0, none⟩ ∧ w0.heap.size ≤ g ∧ ∀ j, j < n * 2 → (∃ u, wr.cell? ⟨g, j, none⟩ = some u) ∧ wr.frozen? ⟨g, j, none⟩ = false
theorem Tl.wr2 {w0 wr : World} {ad : Option Addr} {c n : Nat} {L : List (Int × Int)} (h : Tl w0 wr (.slice ad n c) L n) : Wr2 w0 wr ad n := by
  by_cases hn : n = 0
  · exact Or.inl hn
  · right
    rcases h.o.2 with ⟨_, e⟩ | ⟨g, c', cur, e1, b1, h1, h2⟩
    · omega
    · injection e1 with e1 e2 e3
      subst e1
      refine ⟨g, rfl, b1, fun j hj => ⟨?_, h.o.frozenAt j⟩⟩
      have hl : j < (newsT L).length := by rw [newsT_len, ← h.len]; exact hj
      refine ⟨(newsT L)[j], ?_⟩
      rw [h.o.cellAt j (by omega), List.getElem?_eq_getElem hl]
theorem Wr2.set {w0 wr : World} {g n : Nat} (h : Wr2 w0 wr (some ⟨g, 0, none⟩) n) (j : Nat) (v : Value) : Wr2 w0 (wr.setCell ⟨g, j, none⟩ v) (some ⟨g, 0, none⟩) n := by
  rcases h with h | ⟨g', e, h1, h2⟩
  · exact Or.inl h
  · injection e with e
    injection e with e
    subst e
    refine Or.inr ⟨g, rfl, h1, fun k hk => ⟨?_, by rw [World.frozen?_setCell]; exact (h2 k hk).2⟩⟩
    obtain ⟨u, hu⟩ := (h2 k hk).1
    by_cases e : j = k
    · subst e; exact ⟨v, World.cell?_setCell_same _ _ _ hu⟩
    · exact ⟨u, by rw [World.cell?_setCell_other _ _ _ _ (fun e' => e (by injection e'))]; exact hu⟩
end Go.Proofs.Ytdbbpmadkhedlaa
/- What one sample is made of. -/
namespace Go.Proofs.Ytdbbpmadkhedlaa
open Go.RowKit
set_option linter.unusedVariables false
set_option linter.unusedSimpArgs false

/-- The samples at the places of taps. -/
def pickV (L : List (Int × Int)) (S : List Nat) : List Nat := L.map fun e => S.getD e.1.toNat 0
/-- The sample that is made of taps. -/
def smpV (L : List (Int × Int)) (S : List Nat) : Nat := overW (dotF (prods (L.map Prod.snd) (pickV L S)))
/-- Taps as two lists. -/
def BlV (w : World) (v : Value) (L : List (Int × Int)) : Prop := ∃ vp vw, v = .agg #[vp, vw] ∧ ISl w vp (L.map Prod.fst) ∧ ISl w vw (L.map Prod.snd)
theorem BlV.next {w w' : World} {v : Value} {L : List (Int × Int)} (h : BlV w v L) (q : Q w w') : BlV w' v L := by
  obtain ⟨vp, vw, h1, h2, h3⟩ := h
  exact ⟨vp, vw, h1, h2.next q, h3.next q⟩
theorem fill_alloc {w w1 : World} (q : Q w w1) {b : Nat} (hb : w1.heap.size = b) (M : Array Value) (t : TypeId) (n : Nat) (hM : M.size = n) (L : Nat → Nat) : Fill w (w1.alloc (.cells M t)) b n L 0 := by
  subst hb
  have hb : (w1.alloc (.cells M t)).heap[w1.heap.size]? = some (.cells M t (0, 0)) := heap_alloc_new w1 _
  refine ⟨q.cells _ _, q.1.size, fun i hi => by omega, fun j hj => ⟨M[j]'(by omega), ?_⟩, fun j => ?_⟩
  · rw [cell_of_row _ _ j _ t (0, 0) hb, Array.getElem?_eq_getElem (by omega)]
  · unfold World.frozen?; rw [hb]; simp
theorem pickV_at {L : List (Int × Int)} {S : List Nat} {i : Nat} {e : Int × Int} (h : L[i]? = some e) : (pickV L S).getD i 0 = S.getD e.1.toNat 0 := by
  unfold pickV
  rw [List.getD_eq_getElem?_getD, List.getElem?_map, h]; rfl
set_option maxHeartbeats 4000000 in
set_option maxRecDepth 100000 in
theorem blend_of (v vl : Value) (L : List (Int × Int)) (S : List Nat) (w : World) (hv : BlV w v L) (hl : USl w vl S) (h64 : L.length ≤ 64) (hn : S.length ≤ 35184372087808) (hb : ∀ i, S.getD i 0 < 4294967296)
    (hp : ∀ e ∈ L, 0 ≤ e.1 ∧ e.1 < (S.length : Int)) (hw : ∀ e ∈ L, -268435456 ≤ e.2 ∧ e.2 ≤ 268435456) :
    Calls Try.prog 45 #[v, vl] w fun e w' => e = .returned (.int .u32 (smpV L S : Nat)) ∧ Q w w' := by
  obtain ⟨vp, vw, rfl, hP, hW⟩ := hv
  obtain ⟨aP, cP, rfl⟩ := hP.form
  obtain ⟨aW, cW, rfl⟩ := hW.form
  obtain ⟨al, cl, rfl⟩ := hl.form
  obtain ⟨N, eN⟩ : ∃ N, L.length = N := ⟨_, rfl⟩
  obtain ⟨M, eM⟩ : ∃ M, S.length = M := ⟨_, rfl⟩
  have HP : Hid (ISl w (.slice aP N cP) (L.map Prod.fst)) := by rw [List.length_map, eN] at hP; exact hP
  have HW : Hid (ISl w (.slice aW N cW) (L.map Prod.snd)) := by rw [List.length_map, eN] at hW; exact hW
  have HL : Hid (USl w (.slice al M cl) S) := by rw [eM] at hl; exact hl
  rw [List.length_map, List.length_map, eN, eM]
  rw [eN] at h64
  rw [eM] at hn
  have h64z : ¬ (64 : Int) < (N : Int) := by omega
  have HF : Hid (pickV L S = pickV L S ∧ (pickV L S).length = N) := ⟨rfl, by unfold pickV; rw [List.length_map, eN]⟩
  have HE : Hid (L.length = N ∧ S.length = M) := ⟨eN, eM⟩
  have HB : Hid (∀ i, S.getD i 0 < 4294967296) := hb
  have HPl : Hid (∀ e ∈ L, 0 ≤ e.1 ∧ e.1 < (M : Int)) := by rw [← eM]; exact hp
  have HWt : Hid (∀ e ∈ L, -268435456 ≤ e.2 ∧ e.2 ≤ 268435456) := hw
  clear hP hW hl hb hp hw eN eM
  go_enter Try.func45, Try.ntmps45
  go_wp2_with fail
  obtain ⟨w1, hw1⟩ : ∃ w1, w.alloc (.cells #[.slice aP N cP, .slice aW N cW] 89) = w1 := ⟨_, rfl⟩
  have HQ1 : Hid (Q w w1) := by rw [← hw1]; exact (Q.refl w).cells _ _
  have HC1 : Hid (w1.cell? ⟨w.heap.size, 1, none⟩ = some (.slice aW N cW)) := by show w1.cell? ⟨w.heap.size, 1, none⟩ = _; rw [← hw1]; simp [go_sem]
  have HS1 : Hid (w1.heap.size = w.heap.size + 1) := by show w1.heap.size = _; rw [← hw1]; simp
  go_loopg [7, 8, 18] N (fun gh s7 s8 s18 wr => ∃ k : Nat, s18 = .int .i64 (k : Int) ∧ k ≤ N ∧ gh = N - k ∧ Hid (Fill w1 wr (w.heap.size + 1) 64 (fun i => (pickV L S).getD i 0) k))
  case atStart => exact ⟨0, rfl, Nat.zero_le _, rfl, (by show Fill w1 _ _ _ _ _; rw [← hw1]; exact fill_alloc (Q.refl _) (by simp) _ _ 64 rfl _)⟩
  case round =>
    clear hw1
    obtain ⟨k, rfl, hk, rfl, HFl⟩ := hrel
    by_cases hlt : k < N
    · have hltz : (k : Int) < (N : Int) := by omega
      obtain ⟨e, he⟩ : ∃ e, L[k]? = some e := ⟨_, List.getElem?_eq_getElem (by rw [HE.out.1]; exact hlt)⟩
      obtain ⟨pl, wt⟩ := e
      have hpl := HPl.out _ (List.mem_of_getElem? he)
      obtain ⟨P, hP⟩ : ∃ P : Nat, pl = (P : Int) := ⟨pl.toNat, by have := hpl.1; simp only at this; omega⟩
      subst hP
      have hPM : P < M := by have := hpl.2; simp only at this; omega
      have hPz : (P : Int) < (M : Int) := by omega
      have q1 := HQ1.out.trans HFl.out.q
      obtain ⟨g1, o1, d1, hs1, hI1⟩ := (HP.out.next q1).some (by rw [List.length_map, HE.out.1]; omega)
      rw [List.length_map, HE.out.1] at hs1 hI1
      injection hs1 with e1 e2 e3
      subst e1 e3
      have c1 := hI1 k hlt
      rw [List.getD_eq_getElem?_getD, List.getElem?_map, he] at c1
      simp only [Option.map_some, Option.getD_some] at c1
      obtain ⟨g2, o2, d2, hs2, _, hI2⟩ := (HL.out.next q1).some (by rw [HE.out.2]; omega)
      rw [HE.out.2] at hs2
      injection hs2 with e4 e5 e6
      subst e4 e6
      have c2 := hI2 P (by rw [HE.out.2]; exact hPM)
      obtain ⟨x, hx⟩ : ∃ x, x = S.getD P 0 := ⟨_, rfl⟩
      rw [← hx] at c2
      obtain ⟨u, cu⟩ := HFl.out.room k (by omega)
      have fu := HFl.out.free k
      have HF2 : Hid _ := HFl.out.step (by omega : k < 64) (v := x) (by rw [hx, pickV_at he]; simp)
      have hk64 : k < 64 := by omega
      clear he hpl hI1 hI2 e2 e5 hx HFl
      go_wp2_with fail
      generalize wr.setCell ⟨w.heap.size + 1, k, none⟩ (.int .u32 (x : Nat)) = w9 at HF2 ⊢
      go_roundg (N - (k + 1))
      case measure => go_light; omega
      case rel => go_light; exact ⟨k + 1, by simp, by omega, rfl, HF2⟩
    · have hge : ¬ (k : Int) < (N : Int) := by omega
      obtain rfl : k = N := by omega
      have hown : UIs wr (w.heap.size + 1) 0 (pickV L S) := fun i hi => by rw [Nat.zero_add]; exact HFl.out.done i (by rw [HF.out.2] at hi; exact hi)
      have hus : USl wr (.slice (some ⟨w.heap.size + 1, 0, none⟩) k 64) (pickV L S) := by
        have := hown.usl (cap := 64) (by rw [HF.out.2]; exact h64)
        rw [HF.out.2] at this
        exact this
      have c1 := HFl.out.q.cell HC1.out
      have q1 := HQ1.out.trans HFl.out.q
      have C := dot_of (dot_gen (.slice aW k cW) (.slice (some ⟨w.heap.size + 1, 0, none⟩) k 64) (L.map Prod.snd) (pickV L S) wr (HW.out.next q1) hus (by rw [HF.out.2]; omega) (by rw [List.length_map, HF.out.2, HE.out.1]) (fun i => by
        unfold pickV
        rw [List.getD_eq_getElem?_getD, List.getElem?_map]
        cases L[i]? with
        | none => show 0 < 4294967296; decide
        | some e => exact HB.out _) (fun i hi => by
        rw [List.length_map] at hi
        rw [List.getD_eq_getElem?_getD, List.getElem?_map, List.getElem?_eq_getElem hi]
        have := HWt.out _ (List.getElem_mem hi)
        exact ⟨this.2, this.1⟩))
      have HS : Hid (overW (dotF (prods (L.map Prod.snd) (pickV L S))) = smpV L S) := rfl
      rw [HS.out] at C
      obtain ⟨R, hR⟩ : ∃ R, smpV L S = R := ⟨_, rfl⟩
      rw [hR] at C
      have HR : Hid (smpV L S = R) := hR
      clear hR
      have HQ : Hid (Q w wr) := q1
      clear hown hus q1 HFl
      go_wp2_with fail
      refine C.mono ?_
      rintro e w3 ⟨rfl, q3⟩
      clear C
      have HQ3 : Hid (Q w w3) := HQ.out.trans q3
      clear q3
      go_wp2_with fail
      go_ret
      exact ⟨by rw [HR.out]; rfl, HQ3.out⟩
end Go.Proofs.Ytdbbpmadkhedlaa
