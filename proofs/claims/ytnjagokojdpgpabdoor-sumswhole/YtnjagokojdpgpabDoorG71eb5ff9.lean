/- The chapter's examples: what the program tells of them. -/
import Derived.Test.YtnjagokojdpgpabDoorG76208869
import Derived.Test.YtnjagokojdpgpabDoorGd8a7a432
import Derived.Test.YtnjagokojdpgpabDoorG6dedde2a
import Derived.Test.YtnjagokojdpgpabDoorG0994402e
namespace Go.Proofs.YtnjagokojdpgpabDoor
open Go.RowKit
set_option linter.unusedVariables false
set_option linter.unusedSimpArgs false
set_option maxRecDepth 100000

def kl1 : List Nat := [1065353216, 864026624, 864026624]
def kl2 : List Nat := [2130706432, 2130706432, 4278190080]
def kl3 : List Nat := [2147483648, 2147483648]
def kl4 : List Nat := [1065353216, 864026624]
def kl5 : List Nat := [1065353216, 1077936128]
def kl6 : List Nat := [1065353216, 1065353216, 1]
theorem k1 : leftV kl1 = 1065353216 := by decide +kernel
theorem k2 : pairsV kl1 = 1065353217 := by decide +kernel
theorem k3 : sumV kl1 1 = 1065353217 := by decide +kernel
theorem k4 : kahV kl1 = 1065353217 := by decide +kernel
theorem k5 : left64V kl1 = 4607182419336888320 := by decide +kernel
theorem k6 : leftV kl2 = 2139095040 := by decide +kernel
theorem k7 : sumV kl2 1 = 2130706432 := by decide +kernel
theorem k8 : sumV kl3 1 = 2147483648 := by decide +kernel
theorem k9a : floatBits .mul .f64 (floatOfInt .f64 1) (wideW 1065353216) = some 4607182418800017408 := by decide +kernel
theorem k9b : floatBits .mul .f64 (floatOfInt .f64 (-1)) (wideW 864026624) = some 13722468064597901312 := by decide +kernel
theorem k9 : dotF [4607182418800017408, 13722468064597901312] = 4607182418263146496 := by decide +kernel
theorem k10a : floatBits .mul .f64 (floatOfInt .f64 32768) (wideW 1065353216) = some 4674736413210574848 := by decide +kernel
theorem k10b : floatBits .mul .f64 (floatOfInt .f64 32768) (wideW 1077936128) = some 4681491812651630592 := by decide +kernel
theorem k10 : overW (dotF [4674736413210574848, 4681491812651630592]) = 1073741824 := by decide +kernel
theorem k11 : overV [] 0 = (0, 33) := by decide +kernel
theorem k12 : sumV kl6 1 = 1073741824 := by decide +kernel
theorem k13 : overV kl6 3 = (1059760811, 0) := by decide +kernel
theorem k14 : sumV (kl6 ++ kl6) 1 = 1082130432 := by decide +kernel
theorem small_of {l : List Nat} (h : l.all (· < 4294967296) = true) : (∀ s ∈ l, s < 4294967296) ∧ ∀ i, l.getD i 0 < 4294967296 := by
  have h1 : ∀ s ∈ l, s < 4294967296 := fun s hs => by simpa using List.all_eq_true.1 h s hs
  refine ⟨h1, fun i => ?_⟩
  rcases Nat.lt_or_ge i l.length with g | g
  · rw [List.getD_eq_getElem?_getD, List.getElem?_eq_getElem g]
    exact h1 _ (List.getElem_mem g)
  · rw [List.getD_eq_getElem?_getD, List.getElem?_eq_none g]
    decide
/-- A list just made. -/
structure Lst (w : World) (v : Value) (l : List Nat) : Prop where
  u : USl w v l
  b : ∃ g c, v = .slice (some ⟨g, 0, none⟩) l.length c ∧ g < w.heap.size
theorem Lst.next {w w' : World} {v : Value} {l : List Nat} (h : Lst w v l) (q : Q w w') : Lst w' v l := by
  obtain ⟨u, g, c, e, hg⟩ := h
  exact ⟨u.next q, g, c, e, Nat.lt_of_lt_of_le hg q.1.size⟩
theorem Lst.far {w w' : World} {v : Value} {l : List Nat} {B : Nat} (h : Lst w v l) (f : Fb B w w') (hB : ∀ g c, v = .slice (some ⟨g, 0, none⟩) l.length c → g ≠ B) : Lst w' v l := by
  obtain ⟨u, g, c, e, hg⟩ := h
  refine ⟨?_, g, c, e, Nat.lt_of_lt_of_le hg f.size⟩
  rcases u with ⟨g2, o, cap, e2, hc, hI⟩ | hl
  · refine Or.inl ⟨g2, o, cap, e2, hc, fun i hi => f.cell (hI i hi) ?_⟩
    have : g2 = g := by rw [e] at e2; injection e2 with e3; injection e3 with e3; injection e3 with e3; exact e3.symm
    rw [this]
    exact hB g c e
  · exact Or.inr hl
theorem lst3 (w : World) (a b c : Nat) (t : TypeId) : Lst (w.alloc (.cells #[.int .u32 (a : Int), .int .u32 (b : Int), .int .u32 (c : Int)] t)) (.slice (some ⟨w.heap.size, 0, none⟩) 3 3) [a, b, c] := by
  refine ⟨Or.inl ⟨w.heap.size, 0, 3, rfl, Nat.le_refl 3, fun i hi => ?_⟩, w.heap.size, 3, rfl, by simp [go_sem]⟩
  rcases i with _ | _ | _ | i
  · simp [go_sem]
  · simp [go_sem]
  · simp [go_sem]
  · simp at hi; omega
theorem lst2 (w : World) (a b : Nat) (t : TypeId) : Lst (w.alloc (.cells #[.int .u32 (a : Int), .int .u32 (b : Int)] t)) (.slice (some ⟨w.heap.size, 0, none⟩) 2 2) [a, b] := by
  refine ⟨Or.inl ⟨w.heap.size, 0, 2, rfl, Nat.le_refl 2, fun i hi => ?_⟩, w.heap.size, 2, rfl, by simp [go_sem]⟩
  rcases i with _ | _ | i
  · simp [go_sem]
  · simp [go_sem]
  · simp at hi; omega
theorem ist2 (w : World) (a b : Int) (t : TypeId) : ISl (w.alloc (.cells #[.int .i64 a, .int .i64 b] t)) (.slice (some ⟨w.heap.size, 0, none⟩) 2 2) [a, b] := by
  refine Or.inl ⟨w.heap.size, 0, 2, rfl, fun i hi => ?_⟩
  rcases i with _ | _ | i
  · simp [go_sem]
  · simp [go_sem]
  · simp at hi; omega
theorem ist1 (w : World) (a : Int) (t : TypeId) : ISl (w.alloc (.cells #[.int .i64 a] t)) (.slice (some ⟨w.heap.size, 0, none⟩) 1 1) [a] := by
  refine Or.inl ⟨w.heap.size, 0, 1, rfl, fun i hi => ?_⟩
  rcases i with _ | i
  · simp [go_sem]
  · simp at hi
theorem kn_left1 {v : Value} {w : World} (h : Lst w v kl1) : Calls Tryd.prog 25 #[v] w fun e w' => e = .returned (.int .u32 1065353216) ∧ Q w w' := by
  have := left_any v kl1 w h.u (by decide); rw [k1] at this; exact this
theorem kn_pairs {v : Value} {w : World} (h : Lst w v kl1) : Calls Tryd.prog 26 #[v] w fun e w' => e = .returned (.int .u32 1065353217) ∧ Q w w' := by
  have := pairs_any 3 v kl1 w (by decide) h.u (by decide); rw [k2] at this; exact this
theorem kn_kah {v : Value} {w : World} (h : Lst w v kl1) : Calls Tryd.prog 27 #[v] w fun e w' => e = .returned (.int .u32 1065353217) ∧ Q w w' := by
  have := kahan_any v kl1 w h.u (by decide); rw [k4] at this; exact this
theorem kn_left64 {v : Value} {w : World} (h : Lst w v kl1) : Calls Tryd.prog 34 #[v] w fun e w' => e = .returned (.int .u64 4607182419336888320) ∧ Q w w' := by
  have := left64_any v kl1 w h.u (by decide) (small_of (by decide)).2; rw [k5] at this; exact this
theorem kn_left2 {v : Value} {w : World} (h : Lst w v kl2) : Calls Tryd.prog 25 #[v] w fun e w' => e = .returned (.int .u32 2139095040) ∧ Q w w' := by
  have := left_any v kl2 w h.u (by decide); rw [k6] at this; exact this
theorem exact_lst {v : Value} {w : World} {l : List Nat} (h : Lst w v l) (hl : l.all (· < 4294967296) = true) (hn : l.length ≤ 2147483648) (hT : Tab w) : Calls Tryd.prog 9 #[v] w fun e w' => e = .returned (.int .u32 (sumV l 1 : Nat)) ∧ Q w w' := by
  refine exact_any v l w h.u (fun g o cap e => ?_) (small_of hl).2 hn hT
  obtain ⟨_, g2, c, e2, hg⟩ := h
  rw [e] at e2
  injection e2 with e3
  injection e3 with e3
  injection e3 with e3
  rw [e3]; exact hg
theorem kn_exact1 {v : Value} {w : World} (h : Lst w v kl1) (hT : Tab w) : Calls Tryd.prog 9 #[v] w fun e w' => e = .returned (.int .u32 1065353217) ∧ Q w w' := by
  have := exact_lst h (by decide) (by decide) hT; rw [k3] at this; exact this
theorem kn_exact2 {v : Value} {w : World} (h : Lst w v kl2) (hT : Tab w) : Calls Tryd.prog 9 #[v] w fun e w' => e = .returned (.int .u32 2130706432) ∧ Q w w' := by
  have := exact_lst h (by decide) (by decide) hT; rw [k7] at this; exact this
theorem kn_exact3 {v : Value} {w : World} (h : Lst w v kl3) (hT : Tab w) : Calls Tryd.prog 9 #[v] w fun e w' => e = .returned (.int .u32 2147483648) ∧ Q w w' := by
  have := exact_lst h (by decide) (by decide) hT; rw [k8] at this; exact this
theorem kn_dot64 {u v : Value} {w : World} (hw : ISl w u [1, -1]) (h : Lst w v kl4) : Calls Tryd.prog 29 #[u, v] w fun e w' => e = .returned (.tuple #[.int .u64 4607182418263146496, .int .i64 0]) ∧ Q w w' := by
  have := dot64_of (dot_fin u v [1, -1] kl4 [4607182418800017408, 13722468064597901312] w hw h.u (by decide) rfl (small_of (by decide)).2 (fun i hi => by
    rcases i with _ | _ | i
    · exact ⟨by decide, by decide⟩
    · exact ⟨by decide, by decide⟩
    · simp at hi; omega) rfl (fun i hi => by
    rcases i with _ | _ | i
    · exact k9a
    · exact k9b
    · simp [kl4] at hi; omega))
  rw [k9] at this; exact this
theorem kn_dot {u v : Value} {w : World} (hw : ISl w u [32768, 32768]) (h : Lst w v kl5) : Calls Tryd.prog 35 #[u, v] w fun e w' => e = .returned (.tuple #[.int .u32 1073741824, .int .i64 0]) ∧ Q w w' := by
  have := dot_of (dot_fin u v [32768, 32768] kl5 [4674736413210574848, 4681491812651630592] w hw h.u (by decide) rfl (small_of (by decide)).2 (fun i hi => by
    rcases i with _ | _ | i
    · exact ⟨by decide, by decide⟩
    · exact ⟨by decide, by decide⟩
    · simp at hi; omega) rfl (fun i hi => by
    rcases i with _ | _ | i
    · exact k10a
    · exact k10b
    · simp [kl5] at hi; omega))
  rw [k10] at this; exact this
theorem kn_short {u : Value} {w : World} (hw : ISl w u [1]) : Calls Tryd.prog 29 #[u, .slice none 0 0] w fun e w' => e = .returned (.tuple #[.int .u64 0, .int .i64 30]) ∧ w' = w :=
  dot64_short u (.slice none 0 0) [1] [] w hw (Or.inr ⟨none, 0, rfl, rfl⟩) (by decide)
theorem kn_mean0 {B : Nat} {w : World} (h : AccOf w B [] 0 (fun _ => 0)) (hT : Tab w) : Calls Tryd.prog 36 #[.pointer (some ⟨B, 0, none⟩)] w fun e w' => e = .returned (.tuple #[.int .u32 0, .int .i64 33]) ∧ Q w w' := by
  have := amean_any [] B 0 _ w h (sumZ_fits (by simp) (by decide)) hT
  rw [show ((0 : Nat) : Int) = 0 from rfl, k11] at this
  exact this
theorem kn_mean {B : Nat} {w : World} {N : Nat → Nat} (h : AccOf w B kl6 3 N) (hT : Tab w) : Calls Tryd.prog 36 #[.pointer (some ⟨B, 0, none⟩)] w fun e w' => e = .returned (.tuple #[.int .u32 1059760811, .int .i64 0]) ∧ Q w w' := by
  have := amean_any kl6 B 3 _ w h (sumZ_fits (small_of (by decide)).1 (by decide)) hT
  rw [show ((3 : Nat) : Int) = 3 from rfl, k13] at this
  exact this
theorem kn_sum {B c : Nat} {w : World} {N : Nat → Nat} (h : AccOf w B kl6 c N) (hT : Tab w) : Calls Tryd.prog 14 #[.pointer (some ⟨B, 0, none⟩)] w fun e w' => e = .returned (.int .u32 1073741824) ∧ Q w w' := by
  have := asum_any kl6 B c _ w h (sumZ_fits (small_of (by decide)).1 (by decide)) hT
  rw [k12] at this
  exact this
theorem kn_sum2 {B c : Nat} {w : World} {N : Nat → Nat} (h : AccOf w B (kl6 ++ kl6) c N) (hT : Tab w) : Calls Tryd.prog 14 #[.pointer (some ⟨B, 0, none⟩)] w fun e w' => e = .returned (.int .u32 1082130432) ∧ Q w w' := by
  have := asum_any (kl6 ++ kl6) B c _ w h (sumZ_fits (small_of (by decide)).1 (by decide)) hT
  rw [k14] at this
  exact this
set_option maxHeartbeats 8000000 in
theorem known_any (w : World) (hT : Tab w) : Calls Tryd.prog 7 #[] w fun e w' => e = .returned (.bool true) ∧ Q w w' := by
  have HT : Hid (Tab w) := hT
  clear hT
  go_enter Tryd.func7, Tryd.ntmps7
  go_wp2_with fail
  have HL : Hid (Lst _ _ kl1) := lst3 w 1065353216 864026624 864026624 23
  have HQ : Hid (Q w _) := (Q.refl w).cells #[.int .u32 1065353216, .int .u32 864026624, .int .u32 864026624] 23
  refine (kn_left1 HL.out).mono ?_
  rintro e w1 ⟨rfl, q1⟩
  have HL1 : Hid (Lst w1 _ kl1) := HL.out.next q1
  have HQ1 : Hid (Q w w1) := HQ.out.trans q1
  clear HL HQ q1
  go_wp2_with fail
  refine (kn_pairs HL1.out).mono ?_
  rintro e w2 ⟨rfl, q2⟩
  have HL2 : Hid (Lst w2 _ kl1) := HL1.out.next q2
  have HQ2 : Hid (Q w w2) := HQ1.out.trans q2
  clear HL1 HQ1 q2
  go_wp2_with fail
  refine (kn_exact1 HL2.out (HQ2.out.tab HT.out)).mono ?_
  rintro e w3 ⟨rfl, q3⟩
  have HL3 : Hid (Lst w3 _ kl1) := HL2.out.next q3
  have HQ3 : Hid (Q w w3) := HQ2.out.trans q3
  clear HL2 HQ2 q3
  go_wp2_with fail
  refine (kn_kah HL3.out).mono ?_
  rintro e w4 ⟨rfl, q4⟩
  have HL4 : Hid (Lst w4 _ kl1) := HL3.out.next q4
  have HQ4 : Hid (Q w w4) := HQ3.out.trans q4
  clear HL3 HQ3 q4
  go_wp2_with fail
  refine (kn_left64 HL4.out).mono ?_
  rintro e w5 ⟨rfl, q5⟩
  have HQ5 : Hid (Q w w5) := HQ4.out.trans q5
  clear HL4 HQ4 q5
  go_wp2_with fail
  have HQ6 : Hid (Q w _) := HQ5.out.cells #[.int .u32 2130706432, .int .u32 2130706432, .int .u32 4278190080] 23
  refine (kn_left2 (lst3 w5 2130706432 2130706432 4278190080 23)).mono ?_
  rintro e w6 ⟨rfl, q6⟩
  have HQ7 : Hid (Q w w6) := HQ6.out.trans q6
  clear HQ5 HQ6 q6
  go_wp2_with fail
  have HQ8 : Hid (Q w _) := HQ7.out.cells #[.int .u32 2130706432, .int .u32 2130706432, .int .u32 4278190080] 23
  refine (kn_exact2 (lst3 w6 2130706432 2130706432 4278190080 23) (HQ8.out.tab HT.out)).mono ?_
  rintro e w7 ⟨rfl, q7⟩
  have HQ9 : Hid (Q w w7) := HQ8.out.trans q7
  clear HQ7 HQ8 q7
  go_wp2_with fail
  have HQ10 : Hid (Q w _) := HQ9.out.cells #[.int .u32 2147483648, .int .u32 2147483648] 23
  refine (kn_exact3 (lst2 w7 2147483648 2147483648 23) (HQ10.out.tab HT.out)).mono ?_
  rintro e w8 ⟨rfl, q8⟩
  have HQ11 : Hid (Q w w8) := HQ10.out.trans q8
  clear HQ9 HQ10 q8
  go_wp2_with fail
  have qa : Q w8 (w8.alloc (.cells #[.int .i64 1, .int .i64 (-1)] 3)) := (Q.refl w8).cells _ _
  have qb : Q (w8.alloc (.cells #[.int .i64 1, .int .i64 (-1)] 3)) ((w8.alloc (.cells #[.int .i64 1, .int .i64 (-1)] 3)).alloc (.cells #[.int .u32 1065353216, .int .u32 864026624] 23)) := (Q.refl _).cells _ _
  have HQ12 : Hid (Q w _) := (HQ11.out.trans qa).trans qb
  have hL := lst2 (w8.alloc (.cells #[.int .i64 1, .int .i64 (-1)] 3)) 1065353216 864026624 23
  rw [show (w8.alloc (.cells #[.int .i64 1, .int .i64 (-1)] 3)).heap.size = w8.heap.size + 1 by simp [go_sem]] at hL
  refine (kn_dot64 ((ist2 w8 1 (-1) 3).next qb) hL).mono ?_
  rintro e w9 ⟨rfl, q9⟩
  have HQ13 : Hid (Q w w9) := HQ12.out.trans q9
  clear HQ11 HQ12 q9 qa qb hL
  go_wp2_with fail
  have qa : Q w9 (w9.alloc (.cells #[.int .i64 32768, .int .i64 32768] 3)) := (Q.refl w9).cells _ _
  have qb : Q (w9.alloc (.cells #[.int .i64 32768, .int .i64 32768] 3)) ((w9.alloc (.cells #[.int .i64 32768, .int .i64 32768] 3)).alloc (.cells #[.int .u32 1065353216, .int .u32 1077936128] 23)) := (Q.refl _).cells _ _
  have HQ14 : Hid (Q w _) := (HQ13.out.trans qa).trans qb
  have hL := lst2 (w9.alloc (.cells #[.int .i64 32768, .int .i64 32768] 3)) 1065353216 1077936128 23
  rw [show (w9.alloc (.cells #[.int .i64 32768, .int .i64 32768] 3)).heap.size = w9.heap.size + 1 by simp [go_sem]] at hL
  refine (kn_dot ((ist2 w9 32768 32768 3).next qb) hL).mono ?_
  rintro e w10 ⟨rfl, q10⟩
  have HQ15 : Hid (Q w w10) := HQ14.out.trans q10
  clear HQ13 HQ14 q10 qa qb hL
  go_wp2_with fail
  have HQ16 : Hid (Q w _) := HQ15.out.cells #[.int .i64 1] 3
  refine (kn_short (ist1 w10 1 3)).mono ?_
  rintro e w11 ⟨rfl, hw11⟩
  rw [← hw11] at HQ16
  clear hw11 HQ15
  go_wp2_with fail
  refine (new_any _).mono ?_
  rintro e w12 ⟨rfl, hA, q12, hs12⟩
  have HQ17 : Hid (Q w w12) := HQ16.out.trans q12
  have HA : Hid (AccOf w12 w11.heap.size [] 0 (fun _ => 0)) := hA
  have hlo : w.heap.size ≤ w11.heap.size := HQ16.out.1.size
  clear HQ16 q12 hA
  generalize w11.heap.size = A at *
  go_wp2_with fail
  refine (kn_mean0 HA.out (HQ17.out.tab HT.out)).mono ?_
  rintro e w13 ⟨rfl, q13⟩
  have HQ18 : Hid (Q w w13) := HQ17.out.trans q13
  have HA2 : Hid (AccOf w13 A [] 0 (fun _ => 0)) := HA.out.next q13
  have hs13 : A < w13.heap.size := Nat.lt_of_lt_of_le hs12 q13.1.size
  clear HQ17 q13 HA hs12
  go_wp2_with fail
  have q14 : Q w13 (w13.alloc (.cells #[.int .u32 1065353216, .int .u32 1065353216, .int .u32 1] 23)) := (Q.refl w13).cells _ _
  have HQ19 : Hid (Q w _) := HQ18.out.trans q14
  have hL := lst3 w13 1065353216 1065353216 1 23
  refine (acc_add _ kl6 [] A 0 _ _ (HA2.out.next q14) hL.u (fun g o cap _ e => by injection e with e; injection e with e; injection e with e; omega) (small_of (by decide)).2 (by decide)).mono ?_
  rintro e w15 ⟨rfl, ⟨N1, hA⟩, hF⟩
  have HQ20 : Hid (Q w w15) := hF.q HQ19.out hlo
  have HA3 : Hid (AccOf w15 A kl6 3 N1) := hA
  have hs15 : A < w15.heap.size := Nat.lt_of_lt_of_le (Nat.lt_of_lt_of_le hs13 q14.1.size) hF.size
  clear HQ18 HQ19 q14 HA2 hA hF hL hs13
  go_wp2_with fail
  refine (copy_any kl6 A 3 N1 _ HA3.out).mono ?_
  rintro e w16 ⟨rfl, hB, q16, hs16⟩
  have hne : A ≠ w15.heap.size := by omega
  have HB : Hid (AccOf w16 w15.heap.size kl6 3 N1) := hB
  have HA4 : Hid (AccOf w16 A kl6 3 N1) := HA3.out.next q16
  have HQ21 : Hid (Q w w16) := HQ20.out.trans q16
  have hlo2 : w.heap.size ≤ w15.heap.size := HQ20.out.1.size
  clear HA3 HQ20 hB q16 hs16 hs15
  generalize w15.heap.size = B at *
  go_wp2_with fail
  refine (merge_any kl6 kl6 B A 3 3 N1 N1 _ HB.out HA4.out (by decide)).mono ?_
  rintro e w17 ⟨rfl, hB2, hF⟩
  have HB2 : Hid (AccOf w17 B (kl6 ++ kl6) 6 (dgV N1 N1)) := hB2
  have HA5 : Hid (AccOf w17 A kl6 3 N1) := HA4.out.far hF hne
  have HQ22 : Hid (Q w w17) := hF.q HQ21.out hlo2
  clear HB HA4 HQ21 hF hB2
  go_wp2_with fail
  refine (kn_mean HA5.out (HQ22.out.tab HT.out)).mono ?_
  rintro e w18 ⟨rfl, q18⟩
  have HB3 : Hid (AccOf w18 B (kl6 ++ kl6) 6 (dgV N1 N1)) := HB2.out.next q18
  have HA6 : Hid (AccOf w18 A kl6 3 N1) := HA5.out.next q18
  have HQ23 : Hid (Q w w18) := HQ22.out.trans q18
  clear HB2 HA5 HQ22 q18
  go_wp2_with fail
  refine (kn_sum HA6.out (HQ23.out.tab HT.out)).mono ?_
  rintro e w19 ⟨rfl, q19⟩
  have HB4 : Hid (AccOf w19 B (kl6 ++ kl6) 6 (dgV N1 N1)) := HB3.out.next q19
  have HA7 : Hid (AccOf w19 A kl6 3 N1) := HA6.out.next q19
  have HQ24 : Hid (Q w w19) := HQ23.out.trans q19
  clear HB3 HA6 HQ23 q19
  go_wp2_with fail
  refine (acount_any A 3 _ HA7.out.c).mono ?_
  rintro e w20 ⟨rfl, rfl⟩
  go_wp2_with fail
  refine (acount_any B 6 _ HB4.out.c).mono ?_
  rintro e w21 ⟨rfl, rfl⟩
  go_wp2_with fail
  refine (kn_sum2 HB4.out (HQ24.out.tab HT.out)).mono ?_
  rintro e w22 ⟨rfl, q22⟩
  go_wp2_with fail
  go_ret
  exact ⟨rfl, HQ24.out.trans q22⟩
end Go.Proofs.YtnjagokojdpgpabDoor
/- The statement SumsOrder: its walk. -/
namespace Go.Proofs.YtnjagokojdpgpabDoor
open Go.RowKit
set_option linter.unusedVariables false
set_option linter.unusedSimpArgs false

theorem getD_lt_perm {l m : List Nat} (h : l.Perm m) (hb : ∀ i, m.getD i 0 < 4294967296) : ∀ i, l.getD i 0 < 4294967296 := by
  intro i
  rw [List.getD_eq_getElem?_getD]
  cases e : l[i]? with
  | none => decide
  | some x =>
    have hx : x ∈ m := h.mem_iff.1 (List.mem_of_getElem? e)
    obtain ⟨j, hj, rfl⟩ := List.getElem_of_mem hx
    have := hb j
    rw [List.getD_eq_getElem?_getD, List.getElem?_eq_getElem hj] at this
    exact this
theorem getD_lt_take {l : List Nat} (hb : ∀ i, l.getD i 0 < 4294967296) (n : Nat) : ∀ i, (l.take n).getD i 0 < 4294967296 := by
  intro i
  rw [List.getD_eq_getElem?_getD, List.getElem?_take]
  split
  · rw [← List.getD_eq_getElem?_getD]; exact hb i
  · decide
theorem getD_lt_drop {l : List Nat} (hb : ∀ i, l.getD i 0 < 4294967296) (n : Nat) : ∀ i, (l.drop n).getD i 0 < 4294967296 := by
  intro i
  rw [List.getD_eq_getElem?_getD, List.getElem?_drop, ← List.getD_eq_getElem?_getD]
  exact hb _
theorem mem_lt {l : List Nat} (hb : ∀ i, l.getD i 0 < 4294967296) : ∀ z ∈ l, z < 4294967296 := by
  intro z hz
  obtain ⟨i, hi, rfl⟩ := List.getElem_of_mem hz
  have := hb i
  rw [List.getD_eq_getElem?_getD, List.getElem?_eq_getElem hi] at this
  exact this
theorem getD_lt_all {l : List Nat} (h : ∀ z ∈ l, z < 4294967296) : ∀ i, l.getD i 0 < 4294967296 := by
  intro i
  rw [List.getD_eq_getElem?_getD]
  cases e : l[i]? with
  | none => decide
  | some x => exact h x (List.mem_of_getElem? e)
/-- The front of a list in memory. -/
theorem UIs.front {w : World} {g o : Nat} {l : List Nat} (h : UIs w g o l) (n : Nat) : UIs w g o (l.take n) := by
  intro i hi
  have hi' : i < n ∧ i < l.length := by rw [List.length_take] at hi; omega
  rw [h i hi'.2, List.getD_eq_getElem?_getD, List.getD_eq_getElem?_getD, List.getElem?_take, if_pos hi'.1]
/-- The rest of a list in memory. -/
theorem UIs.rest {w : World} {g o : Nat} {l : List Nat} (h : UIs w g o l) (n : Nat) : UIs w g (o + n) (l.drop n) := by
  intro i hi
  have hi' : n + i < l.length := by rw [List.length_drop] at hi; omega
  rw [Nat.add_assoc, h (n + i) hi', List.getD_eq_getElem?_getD, List.getD_eq_getElem?_getD, List.getElem?_drop]
theorem and31u (x : Nat) (h : x < 4294967296) : bits .and .u32 (x : Int) 2147483647 = ((x % 2147483648 : Nat) : Int) := by
  have h := u32_and (x : Int) 2147483647 (by omega) (by omega) (by decide) (by decide)
  rw [show (2147483647 : Int).toNat = 2 ^ 31 - 1 from rfl, Int.toNat_natCast, Nat.and_two_pow_sub_one_eq_mod] at h
  exact h
/-- A copy of samples: append to nothing, where its guard lets it through. -/
theorem wpList_copyU (w : World) {ops : Array Oper} {rest : List Oper} {o : Oper} {a : Act} {R : Exit → Act → World → Prop} (hgd : Region.wanted o (yielded ops a.tmps) = true) (x : Operand)
    (ho : o.op = .call { callee := .builtin .append, args := #[.const (.slice none 0 0), x], argTypes := #[22, 22] })
    (ad : Option Addr) (n c : Nat) (S : List Nat) (hn : S.length = n) (h100 : n ≤ 2000) (hx : a.eval x = .slice ad n c) (hS : USl w (.slice ad n c) S)
    (h : ∀ la lc w', Q w w' → USl w' (.slice la n lc) S → wpList Tryd.prog ops R rest (a.put o.dst (.slice la n lc)) w') :
    wpList Tryd.prog ops R (o :: rest) a w := by
  obtain ⟨iu, i1, i2, i3, i4⟩ := u32_info
  refine BigFrame.wpList_want hgd fun _ hK => ?_
  unfold Oper.wp execOp
  by_cases h0 : n = 0
  · subst h0
    have hr := run_app_zeroU (P := Tryd.prog) w 22 o.type 23 iu Tryd.underlying22 i1 ad c
    simp only [ho, resolve, invoke, builtin, Sem.run_bind, Sem.run_pure, Result.andThen_ok, List.map_toArray, List.map_cons, List.map_nil, Act.eval, hr]
    simp only [Act.eval] at hx
    rw [hx, hr]
    exact hK _ _ (h none 0 w (Q.refl w) (Or.inr ⟨_, _, rfl, List.eq_nil_of_length_eq_zero hn⟩))
  · obtain ⟨g, o', c', e1, hcap, e3⟩ := hS.some (by omega)
    have hx' := hx
    rw [e1] at hx'
    have hl : (newsU S).length = S.length := by simp [newsU]
    obtain ⟨lc, w', hr, q1, q2, q3, q4, q5⟩ := run_app_new (P := Tryd.prog) w 22 o.type 23 iu _ Tryd.underlying22 i1 i4 _ (Or.inl rfl) ⟨g, o', none⟩ S.length c' (newsU S) (by rw [i2, hl, Nat.mul_one]) (fun j u hu => by
      obtain ⟨hj, rfl⟩ := news_at hu
      rw [show (⟨g, o', none⟩ : Addr).add j = ⟨g, o' + j, none⟩ by unfold Addr.add; split <;> simp_all]
      exact e3 j hj) (by omega) (by omega) (by rw [i3]; omega)
    simp only [ho, resolve, invoke, builtin, Sem.run_bind, Sem.run_pure, Result.andThen_ok, List.map_toArray, List.map_cons, List.map_nil, Act.eval]
    simp only [Act.eval] at hx'
    rw [hx', hr]
    refine hK _ _ ?_
    have hh := h (some ⟨w.heap.size, 0, none⟩) lc w' q1 (Or.inl ⟨w.heap.size, 0, lc, by rw [hn], by omega, fun j hj => ?_⟩)
    · rw [hn]; exact hh
    · rw [Nat.zero_add]
      refine q4 j _ ?_
      unfold newsU
      rw [List.getElem?_map, List.getD_eq_getElem?_getD, List.getElem?_eq_getElem hj]; rfl
theorem own_one (w : World) (v : Value) (t : TypeId) : (w.alloc (.cells #[v] t)).ownsRow w.heap.size t 1 (.slice (some ⟨w.heap.size, 0, none⟩) 1 1) 1 [v] :=
  ⟨rfl, Or.inr ⟨w.heap.size, 1, #[v], rfl, Nat.le_refl _, (by show (w.heap.push _)[w.heap.size]? = _; simp), Nat.le_refl _, by decide, rfl, rfl⟩⟩
theorem run_app_noneU {P : Program} (w : World) (t ty e : TypeId) (i : TypeInfo) (ht : P.underlying t = some (.slice e)) (hi : P.info? e = some i) (a : Option Addr) (c : Nat) (b : Addr) (n cap : Nat) (hn : n ≤ cap) : (Builtin.append_ #[t, t] ty #[.slice (some b) n cap, .slice a 0 c]).run P w = .ok (.slice (some b) n cap) w := by
  cases a <;> simp [Builtin.append_, run_underlying ht, sizeOf, typeInfo, hi, Builtin.lenOf, Builtin.firstCells, loadCells, loadCellsFrom, storeCells, hn]
/-- Samples put behind a list of the call's own. -/
theorem wpList_addU (w w0 : World) (q0 : Q w0 w) {ops : Array Oper} {rest : List Oper} {o : Oper} {a : Act} {R : Exit → Act → World → Prop} (hgd : o.guard = none) (s x : Operand)
    (ho : o.op = .call { callee := .builtin .append, args := #[s, x], argTypes := #[22, 22] })
    (v : Value) (n : Nat) (L : List Nat) (hs : a.eval s = v) (hown : w.ownsRow w0.heap.size 23 1 v n (newsU L)) (hn0 : 0 < n)
    (ad : Option Addr) (m c : Nat) (S : List Nat) (hx : a.eval x = .slice ad m c) (hS : USl w (.slice ad m c) S) (hm : S.length = m) (h63 : n + m ≤ 5000)
    (h : ∀ g cap w', w'.ownsRow w0.heap.size 23 1 (.slice (some ⟨g, 0, none⟩) (n + m) cap) (n + m) (newsU (L ++ S)) → Q w0 w' → wpList Tryd.prog ops R rest (a.put o.dst (.slice (some ⟨g, 0, none⟩) (n + m) cap)) w') :
    wpList Tryd.prog ops R (o :: rest) a w := by
  obtain ⟨iu, i1, i2, i3, i4⟩ := u32_info
  refine wpList_plain hgd fun _ hK => ?_
  unfold Oper.wp execOp
  have hap : newsU (L ++ S) = newsU L ++ newsU S := by simp [newsU]
  by_cases h0 : m = 0
  · subst h0
    have hS0 : S = [] := List.eq_nil_of_length_eq_zero hm
    have hown' := hown
    obtain ⟨_, ⟨_, hz⟩ | ⟨g, cap, cur, rfl, _, _, hc, _⟩⟩ := hown
    · omega
    have hr := run_app_noneU (P := Tryd.prog) w 22 o.type 23 iu Tryd.underlying22 i1 ad c ⟨g, 0, none⟩ n cap hc
    simp only [ho, resolve, invoke, builtin, Sem.run_bind, Sem.run_pure, Result.andThen_ok, List.map_toArray, List.map_cons, List.map_nil, hs, hx, hr]
    refine hK _ _ (h g cap w ?_ q0)
    rw [hS0, List.append_nil]
    exact hown'
  · obtain ⟨g, o', c', e1, hcap, e3⟩ := hS.some (by omega)
    rw [e1] at hx
    have hl : (newsU S).length = S.length := by simp [newsU]
    obtain ⟨g2, cap, w', hr, ho2, hq⟩ := run_app_q (P := Tryd.prog) w w0 q0 22 o.type 23 iu _ 1 4 Tryd.underlying22 i1 i4 i2 i3 rfl (by decide) v n (newsU L) hown ⟨g, o', none⟩ S.length c' (newsU S) (by rw [hl, Nat.mul_one]) (fun j u hu => by
      obtain ⟨hj, rfl⟩ := news_at hu
      rw [show (⟨g, o', none⟩ : Addr).add j = ⟨g, o' + j, none⟩ by unfold Addr.add; split <;> simp_all]
      exact e3 j hj) (fun u hu => by
      obtain ⟨z, _, rfl⟩ := List.mem_map.1 hu
      rfl) (by omega) (by unfold maxLen; omega) (by omega)
    simp only [ho, resolve, invoke, builtin, Sem.run_bind, Sem.run_pure, Result.andThen_ok, List.map_toArray, List.map_cons, List.map_nil, hs, hx, hr]
    rw [hm] at ho2 ⊢
    rw [← hap] at ho2
    exact hK _ _ (h g2 cap w' ho2 hq)
/-- A list of the call's own, as samples in memory. -/
theorem own_usl {w : World} {base g n cap : Nat} {L : List Nat} (h : w.ownsRow base 23 1 (.slice (some ⟨g, 0, none⟩) n cap) n (newsU L)) (hn : L.length = n) : USl w (.slice (some ⟨g, 0, none⟩) n cap) L := by
  obtain ⟨_, ⟨hz, _⟩ | ⟨g', cap', cur, hv, _, hh, hc, _, hsz, ht⟩⟩ := h
  · cases hz
  · injection hv with h1 h2 h3
    injection h1 with h1
    injection h1 with h1
    subst h1 h3
    refine Or.inl ⟨g, 0, cap, by rw [hn], by rw [hn]; exact hc, fun i hi => ?_⟩
    have hg : cur.toList[i]? = some (.int .u32 ((L.getD i 0 : Nat) : Int)) := by
      have e : (cur.toList.take (n * 1))[i]? = (newsU L)[i]? := by rw [ht]
      rw [List.getElem?_take, if_pos (by omega)] at e
      rw [e]
      unfold newsU
      rw [List.getElem?_map, List.getElem?_eq_getElem hi, List.getD_eq_getElem?_getD, List.getElem?_eq_getElem hi]
      rfl
    unfold World.cell?
    simp only [hh, Nat.zero_add]
    rw [Array.getElem?_toList] at hg
    exact hg
theorem xor31 (x : Nat) (h : x < 4294967296) : bits .xor .u32 (x : Int) 2147483648 = ((ngS x : Nat) : Int) := by
  unfold ngS
  by_cases h1 : x < 2147483648
  · rw [if_pos h1, xor_lo (x : Int) (by omega) (by omega)]; omega
  · rw [if_neg h1, xor_hi (x : Int) (by omega) (by omega)]; omega
end Go.Proofs.YtnjagokojdpgpabDoor
