/- The chapter's examples: what the program tells of them. -/
import Derived.Test.YtieojgblamkgoaaGreatDoorGf88f0262
import Derived.Test.YtieojgblamkgoaaGreatDoorGf196db84
import Derived.Test.YtieojgblamkgoaaGreatDoorG50b9f8da
namespace Go.Proofs.YtieojgblamkgoaaGreatDoor
open Go.RowKit
set_option linter.unusedVariables false
set_option linter.unusedSimpArgs false
set_option maxRecDepth 100000

def kl1 : List Nat := [1065353216, 864026624, 864026624]
def kl2 : List Nat := [2130706432, 2130706432, 4278190080]
def kl3 : List Nat := [2147483648, 2147483648]
def kl4 : List Nat := [1065353216, 864026624]
def kl5 : List Nat := [1065353216, 1077936128]
def kl6 : List Nat := [1065353216, 1065353216, 1]
theorem k1 : leftV kl1 = 1065353216 := by decide +kernel
theorem k2 : pairsV kl1 = 1065353217 := by decide +kernel
theorem k3 : sumV kl1 1 = 1065353217 := by decide +kernel
theorem k4 : kahV kl1 = 1065353217 := by decide +kernel
theorem k5 : left64V kl1 = 4607182419336888320 := by decide +kernel
theorem k6 : leftV kl2 = 2139095040 := by decide +kernel
theorem k7 : sumV kl2 1 = 2130706432 := by decide +kernel
theorem k8 : sumV kl3 1 = 2147483648 := by decide +kernel
theorem k9a : floatBits .mul .f64 (floatOfInt .f64 1) (wideW 1065353216) = some 4607182418800017408 := by decide +kernel
theorem k9b : floatBits .mul .f64 (floatOfInt .f64 (-1)) (wideW 864026624) = some 13722468064597901312 := by decide +kernel
theorem k9 : dotF [4607182418800017408, 13722468064597901312] = 4607182418263146496 := by decide +kernel
theorem k10a : floatBits .mul .f64 (floatOfInt .f64 32768) (wideW 1065353216) = some 4674736413210574848 := by decide +kernel
theorem k10b : floatBits .mul .f64 (floatOfInt .f64 32768) (wideW 1077936128) = some 4681491812651630592 := by decide +kernel
theorem k10 : overW (dotF [4674736413210574848, 4681491812651630592]) = 1073741824 := by decide +kernel
theorem k11 : overV [] 0 = (0, 33) := by decide +kernel
theorem k12 : sumV kl6 1 = 1073741824 := by decide +kernel
theorem k13 : overV kl6 3 = (1059760811, 0) := by decide +kernel
theorem k14 : sumV (kl6 ++ kl6) 1 = 1082130432 := by decide +kernel
theorem small_of {l : List Nat} (h : l.all (· < 4294967296) = true) : (∀ s ∈ l, s < 4294967296) ∧ ∀ i, l.getD i 0 < 4294967296 := by
  have h1 : ∀ s ∈ l, s < 4294967296 := fun s hs => by simpa using List.all_eq_true.1 h s hs
  refine ⟨h1, fun i => ?_⟩
  rcases Nat.lt_or_ge i l.length with g | g
  · rw [List.getD_eq_getElem?_getD, List.getElem?_eq_getElem g]
    exact h1 _ (List.getElem_mem g)
  · rw [List.getD_eq_getElem?_getD, List.getElem?_eq_none g]
    decide
/-- A list just made. -/
structure Lst (w : World) (v : Value) (l : List Nat) : Prop where
  u : USl w v l
  b : ∃ g c, v = .slice (some ⟨g, 0, none⟩) l.length c ∧ g < w.heap.size
theorem Lst.next {w w' : World} {v : Value} {l : List Nat} (h : Lst w v l) (q : Q w w') : Lst w' v l := by
  obtain ⟨u, g, c, e, hg⟩ := h
  exact ⟨u.next q, g, c, e, Nat.lt_of_lt_of_le hg q.1.size⟩
theorem Lst.far {w w' : World} {v : Value} {l : List Nat} {B : Nat} (h : Lst w v l) (f : Fb B w w') (hB : ∀ g c, v = .slice (some ⟨g, 0, none⟩) l.length c → g ≠ B) : Lst w' v l := by
  obtain ⟨u, g, c, e, hg⟩ := h
  refine ⟨?_, g, c, e, Nat.lt_of_lt_of_le hg f.size⟩
  rcases u with ⟨g2, o, cap, e2, hc, hI⟩ | hl
  · refine Or.inl ⟨g2, o, cap, e2, hc, fun i hi => f.cell (hI i hi) ?_⟩
    have : g2 = g := by rw [e] at e2; injection e2 with e3; injection e3 with e3; injection e3 with e3; exact e3.symm
    rw [this]
    exact hB g c e
  · exact Or.inr hl
theorem lst3 (w : World) (a b c : Nat) (t : TypeId) : Lst (w.alloc (.cells #[.int .u32 (a : Int), .int .u32 (b : Int), .int .u32 (c : Int)] t)) (.slice (some ⟨w.heap.size, 0, none⟩) 3 3) [a, b, c] := by
  refine ⟨Or.inl ⟨w.heap.size, 0, 3, rfl, Nat.le_refl 3, fun i hi => ?_⟩, w.heap.size, 3, rfl, by simp [go_sem]⟩
  rcases i with _ | _ | _ | i
  · simp [go_sem]
  · simp [go_sem]
  · simp [go_sem]
  · simp at hi; omega
theorem lst2 (w : World) (a b : Nat) (t : TypeId) : Lst (w.alloc (.cells #[.int .u32 (a : Int), .int .u32 (b : Int)] t)) (.slice (some ⟨w.heap.size, 0, none⟩) 2 2) [a, b] := by
  refine ⟨Or.inl ⟨w.heap.size, 0, 2, rfl, Nat.le_refl 2, fun i hi => ?_⟩, w.heap.size, 2, rfl, by simp [go_sem]⟩
  rcases i with _ | _ | i
  · simp [go_sem]
  · simp [go_sem]
  · simp at hi; omega
theorem ist2 (w : World) (a b : Int) (t : TypeId) : ISl (w.alloc (.cells #[.int .i64 a, .int .i64 b] t)) (.slice (some ⟨w.heap.size, 0, none⟩) 2 2) [a, b] := by
  refine Or.inl ⟨w.heap.size, 0, 2, rfl, fun i hi => ?_⟩
  rcases i with _ | _ | i
  · simp [go_sem]
  · simp [go_sem]
  · simp at hi; omega
theorem ist1 (w : World) (a : Int) (t : TypeId) : ISl (w.alloc (.cells #[.int .i64 a] t)) (.slice (some ⟨w.heap.size, 0, none⟩) 1 1) [a] := by
  refine Or.inl ⟨w.heap.size, 0, 1, rfl, fun i hi => ?_⟩
  rcases i with _ | i
  · simp [go_sem]
  · simp at hi
theorem kn_mean0 {B : Nat} {w : World} (h : AccOf w B [] 0 (fun _ => 0)) (hT : Tab w) : Calls Tryz.prog 65 #[.pointer (some ⟨B, 0, none⟩)] w fun e w' => e = .returned (.tuple #[.int .u32 0, .int .i64 33]) ∧ Q w w' := by
  have := amean_any [] B 0 _ w h (sumZ_fits (by simp) (by decide)) hT
  rw [show ((0 : Nat) : Int) = 0 from rfl, k11] at this
  exact this
theorem kn_mean {B : Nat} {w : World} {N : Nat → Nat} (h : AccOf w B kl6 3 N) (hT : Tab w) : Calls Tryz.prog 65 #[.pointer (some ⟨B, 0, none⟩)] w fun e w' => e = .returned (.tuple #[.int .u32 1059760811, .int .i64 0]) ∧ Q w w' := by
  have := amean_any kl6 B 3 _ w h (sumZ_fits (small_of (by decide)).1 (by decide)) hT
  rw [show ((3 : Nat) : Int) = 3 from rfl, k13] at this
  exact this
theorem kn_sum {B c : Nat} {w : World} {N : Nat → Nat} (h : AccOf w B kl6 c N) (hT : Tab w) : Calls Tryz.prog 37 #[.pointer (some ⟨B, 0, none⟩)] w fun e w' => e = .returned (.int .u32 1073741824) ∧ Q w w' := by
  have := asum_any kl6 B c _ w h (sumZ_fits (small_of (by decide)).1 (by decide)) hT
  rw [k12] at this
  exact this
theorem kn_sum2 {B c : Nat} {w : World} {N : Nat → Nat} (h : AccOf w B (kl6 ++ kl6) c N) (hT : Tab w) : Calls Tryz.prog 37 #[.pointer (some ⟨B, 0, none⟩)] w fun e w' => e = .returned (.int .u32 1082130432) ∧ Q w w' := by
  have := asum_any (kl6 ++ kl6) B c _ w h (sumZ_fits (small_of (by decide)).1 (by decide)) hT
  rw [k14] at this
  exact this
end Go.Proofs.YtieojgblamkgoaaGreatDoor
/- stat: the chapter's example. -/
namespace Go.Proofs.YtieojgblamkgoaaGreatDoor
open Go.RowKit
set_option linter.unusedVariables false
set_option linter.unusedSimpArgs false
set_option maxRecDepth 100000

def kf4 : List Nat := [1065353216, 1073741824, 1082130432, 2147483648]
theorem kf4_crop : crL 2 0 0 2 2 kf4 = kf4 := by decide +kernel
theorem kf4_lt : ∀ i, kf4.getD i 0 < 4294967296 := (small_of (l := kf4) (by decide)).2
theorem kf4_mean : smeanV kf4 = (1071644672, 0) := by decide +kernel
theorem kf4_sum : sumV kf4 1 = 1088421888 := by decide +kernel
theorem kf4_ends : endsV kf4 = (2147483648, 1082130432, 0) := by decide +kernel
theorem kf4_rank : rkV kf4 1 = 1065353216 := by
  have h : isRk kf4 1 0 := by unfold isRk; decide +kernel
  have := isRk_val (L := kf4) (small_of (l := kf4) (by decide)).1 (k := 1) (i := 0) (by decide) (by decide) h
  rw [← this]; rfl
theorem kf4_share : sshV 0 kf4 1 2 = (1065353216, 0) := by
  unfold sshV srkV
  rw [if_neg (by decide), if_neg (by decide), if_neg (by decide), if_neg (by decide)]
  show (rkV kf4 1, _) = _
  rw [kf4_rank]
set_option maxHeartbeats 1000000 in
theorem four16_any (w : World) : Calls Tryz.prog 36 #[] w fun e w' => ∃ g, e = .returned (.agg #[.int .i64 2, .int .i64 2, .slice (some ⟨g, 0, none⟩) 4 4]) ∧ UIs w' g 0 kf4 ∧ Q w w' := by
  obtain ⟨w2, hw2⟩ : ∃ w2, (w.alloc (.cells #[.int .i64 0, .int .i64 0, .slice none 0 0] 26)).alloc (.cells #[.int .u32 1065353216, .int .u32 1073741824, .int .u32 1082130432, .int .u32 2147483648] 43) = w2 := ⟨_, rfl⟩
  have q2 : Hid (Q w w2) := by rw [← hw2]; exact ((Q.refl w).cells _ _).cells _ _
  have z0 : w2.cell? ⟨w.heap.size, 0, none⟩ = some (.int .i64 0) := by rw [← hw2]; simp [go_sem]
  have z1 : w2.cell? ⟨w.heap.size, 1, none⟩ = some (.int .i64 0) := by rw [← hw2]; simp [go_sem]
  have z2 : w2.cell? ⟨w.heap.size, 2, none⟩ = some (.slice none 0 0) := by rw [← hw2]; simp [go_sem]
  have zf : ∀ j, w2.frozen? ⟨w.heap.size, j, none⟩ = false := fun j => by rw [← hw2]; simp [go_sem]
  have HI : Hid (UIs w2 (w.heap.size + 1) 0 kf4) := by
    intro i hi
    rcases i with _ | _ | _ | _ | i
    · rw [← hw2]; simp [go_sem, kf4]
    · rw [← hw2]; simp [go_sem, kf4]
    · rw [← hw2]; simp [go_sem, kf4]
    · rw [← hw2]; simp [go_sem, kf4]
    · simp [kf4] at hi; omega
  go_enter Tryz.func36, Tryz.ntmps36
  go_wp2_with fail
  refine bodyPost_ret (v := .agg #[.int .i64 2, .int .i64 2, .slice (some ⟨w.heap.size + 1, 0, none⟩) 4 4]) (by simp [results, Tryz.results36, go_sem, z0, z1, z2]) rfl ⟨_, rfl, ?_, ?_⟩
  · intro i hi
    rw [World.cell?_setCell_other _ _ _ _ (fun e => by injection e with e; omega), World.cell?_setCell_other _ _ _ _ (fun e => by injection e with e; omega), World.cell?_setCell_other _ _ _ _ (fun e => by injection e with e; omega)]
    exact HI.out i hi
  · exact ((q2.out.set (Nat.le_refl _) _).set (Nat.le_refl _) _).set (Nat.le_refl _) _
set_option maxHeartbeats 4000000 in
theorem known16_any (w : World) (hT : Tab w) : Calls Tryz.prog 9 #[] w fun e w' => e = .returned (.bool true) ∧ Qb w w' := by
  have HT : Hid (Tab w) := hT
  clear hT
  go_enter Tryz.func9, Tryz.ntmps9
  go_wp2_with fail
  refine Calls.mono (snew_good 4 (by decide) (by decide) _) ?_
  rintro e w1 ⟨P, A, H, kc, rfl, lP, lA, lH, hS, q1⟩
  have HS1 : Hid (StAt w1 P A H 4 kc []) := hS
  have HQ1 : Hid (Q w w1) := q1
  clear hS q1
  go_wp2_with fail
  refine Calls.mono (four16_any _) ?_
  rintro e w2 ⟨g, rfl, hI, q2⟩
  have HS2 : Hid (StAt w2 P A H 4 kc []) := HS1.out.next q2
  have HQ2 : Hid (Q w w2) := HQ1.out.trans q2
  have hPl : Pl w2 g 0 4 4 2 2 kf4 := ⟨⟨by decide, by decide, by decide, by decide, by decide⟩, rfl, rfl, Nat.le_refl _, hI⟩
  have KA := sadd_good P A H 4 kc [] w2 HS2.out hPl (x0 := 0) (y0 := 0) (c := 2) (d := 2) ⟨by decide, by decide, by decide, by decide⟩ 2 2 rfl rfl (by rw [kf4_crop]; exact kf4_lt) (by decide)
  rw [kf4_crop, List.nil_append] at KA
  have HKA : Hid _ := KA
  clear HS1 HQ1 q2 hI hPl KA
  go_wp2_with fail
  refine Calls.mono HKA.out ?_
  rintro e w3 ⟨rfl, hS3, f3⟩
  have HQ3 : Hid (Q w w3) := f3.q HQ2.out (fun b hb => ⟨by omega, by omega, by omega⟩)
  have HS3 : Hid (StAt w3 P A H 4 kc kf4) := hS3
  have HT3 : Hid (Tab w3) := HQ3.out.tab HT.out
  clear hS3 f3 HQ2 HS2 HKA
  go_wp2_with fail
  have KM := smean_any P A H 4 kc kf4 w3 HS3.out (small_of (l := kf4) (by decide)).1 (by decide) HT3.out
  rw [kf4_mean] at KM
  refine Calls.mono KM ?_
  rintro e w4 ⟨rfl, q4⟩
  have HQ4 : Hid (Q w w4) := HQ3.out.trans q4
  have HS4 : Hid (StAt w4 P A H 4 kc kf4) := HS3.out.next q4
  clear KM q4 HQ3 HS3 HT3
  go_wp2_with fail
  have KE := sends_any P A H 4 kc kf4 w4 HS4.out (small_of (l := kf4) (by decide)).1
  rw [kf4_ends] at KE
  refine Calls.mono KE ?_
  rintro e w5 ⟨rfl, q5⟩
  have HQ5 : Hid (Q w w5) := HQ4.out.trans q5
  have HS5 : Hid (StAt w5 P A H 4 kc kf4) := HS4.out.next q5
  clear KE q5 HQ4 HS4
  go_wp2_with fail
  refine Calls.mono (four16_any _) ?_
  rintro e w6 ⟨g6, rfl, hI6, q6⟩
  have HQ6 : Hid (Q w w6) := HQ5.out.trans q6
  have HS6 : Hid (StAt w6 P A H 4 kc kf4) := HS5.out.next q6
  have KR := sshare_any 2 2 (some ⟨g6, 0, none⟩) 4 4 kf4 1 2 w6 (hI6.usl (cap := 4) (by decide)) rfl kf4_lt (by decide)
  rw [show chk 2 2 4 = 0 by decide, kf4_share] at KR
  have HKR : Hid _ := KR
  clear q6 hI6 HQ5 HS5 KR
  go_wp2_with fail
  refine Calls.mono HKR.out ?_
  rintro e w7 ⟨rfl, q7⟩
  have HQ7 : Hid (Qb w w7) := HQ6.out.qb.trans q7
  have HS7 : Hid (StAt w7 P A H 4 kc kf4) := HS6.out.nextB q7
  clear q7 HQ6 HS6 HKR
  have p0 := HS7.out.p0
  have HT7 : Hid (Tab w7) := fun j hj => HQ7.out.cell (HT.out j hj)
  obtain ⟨N, hA⟩ := HS7.out.acc
  have KC := acount_any A (4 : Int) w7 hA.c
  have KS := asum_any kf4 A 4 N w7 hA (sumZ_fits (small_of (l := kf4) (by decide)).1 (by decide)) HT7.out
  rw [kf4_sum] at KS
  have HKS : Hid _ := KS
  clear hA KS HT7 HT
  go_wp2_with fail
  refine Calls.mono KC ?_
  rintro e w8 ⟨rfl, hw8⟩
  obtain rfl := hw8.symm
  clear hw8
  go_wp2_with fail
  refine Calls.mono HKS.out ?_
  rintro e w9 ⟨rfl, q9⟩
  have HQ9 : Hid (Qb w w9) := HQ7.out.trans q9.qb
  clear q9 HKS KC
  go_wp2_with fail
  go_ret
  exact ⟨rfl, HQ9.out⟩
end Go.Proofs.YtieojgblamkgoaaGreatDoor
/- stat: Merge. -/
namespace Go.Proofs.YtieojgblamkgoaaGreatDoor
open Go.RowKit
set_option linter.unusedVariables false
set_option linter.unusedSimpArgs false

/-- Counts, of which the first have been put together. -/
def mgV (c c' : Nat → Nat) (i j : Nat) : Nat := if j < i then c j + c' j else c j
theorem mgV_zero (c c' : Nat → Nat) (j : Nat) : mgV c c' 0 j = c j := by unfold mgV; rw [if_neg (by omega)]
theorem mgV_at (c c' : Nat → Nat) (i : Nat) : mgV c c' i i = c i := by unfold mgV; rw [if_neg (by omega)]
theorem mgV_next (c c' : Nat → Nat) (i : Nat) : mgV c c' (i + 1) i = c i + c' i := by unfold mgV; rw [if_pos (by omega)]
theorem mgV_other (c c' : Nat → Nat) {i j : Nat} (h : j ≠ i) : mgV c c' (i + 1) j = mgV c c' i j := by
  unfold mgV
  by_cases k : j < i
  · rw [if_pos k, if_pos (by omega)]
  · rw [if_neg k, if_neg (by omega)]
theorem mgV_all {c c' : Nat → Nat} {n j : Nat} (h : j < n) : mgV c c' n j = c j + c' j := by unfold mgV; rw [if_pos h]
set_option maxHeartbeats 4000000 in
set_option maxRecDepth 100000 in
theorem tmerge_any (b H kc b' H' kc' : Nat) (c c' : Nat → Nat) (w : World) (h2 : b ≤ 12) (hT : VR w H (2 ^ b) (fun j => .int .i64 (c j : Nat))) (hR : ∀ wr i, i < 2 ^ b → Fb H w wr → VR wr H (2 ^ b) (fun j => .int .i64 (mgV c c' i j : Nat)) → wr.cell? ⟨H', i, none⟩ = some (.int .i64 (c' i : Nat)))
    (hcap : 2 ^ b ≤ kc) (hcap' : 2 ^ b ≤ kc') (hc : ∀ j, c j ≤ 35184372087808) (hc' : ∀ j, c' j ≤ 35184372087808) :
    Calls Tryz.prog 45 #[talV b H kc, .agg #[.int .i64 (b' : Int), .slice (some ⟨H', 0, none⟩) (2 ^ b) kc']] w fun e w' => e = .returned (.tuple #[]) ∧ VR w' H (2 ^ b) (fun j => .int .i64 ((c j + c' j : Nat) : Int)) ∧ Fb H w w' := by
  have hp : 2 ^ b ≤ 2 ^ 12 := Nat.pow_le_pow_right (by decide) h2
  have hp1 : 1 ≤ 2 ^ b := Nat.one_le_two_pow
  obtain ⟨w1, hw1⟩ : ∃ w1, (w.alloc (.cells #[.int .i64 (b : Int), .slice (some ⟨H, 0, none⟩) (2 ^ b) kc] 72)).alloc (.cells #[.int .i64 (b' : Int), .slice (some ⟨H', 0, none⟩) (2 ^ b) kc'] 72) = w1 := ⟨_, rfl⟩
  obtain ⟨A, hA⟩ : ∃ A, w.heap.size = A := ⟨_, rfl⟩
  have q1 : Q w w1 := by rw [← hw1]; exact ((Q.refl w).cells _ _).cells _ _
  have z1 : w1.cell? ⟨A, 1, none⟩ = some (.slice (some ⟨H, 0, none⟩) (2 ^ b) kc) := by rw [← hw1, ← hA]; simp [go_sem]
  have y1 : w1.cell? ⟨A + 1, 1, none⟩ = some (.slice (some ⟨H', 0, none⟩) (2 ^ b) kc') := by rw [← hw1, ← hA]; simp [go_sem]
  have hHA : H < A := by have := hT.lt hp1; omega
  have H0 : Hid (VR w1 H (2 ^ b) (fun j => .int .i64 (mgV c c' 0 j : Nat)) ∧ Fb H w w1) := ⟨(hT.next q1).congr fun j _ => by rw [mgV_zero], q1.fb H⟩
  have HZ : Hid (∀ wr, Fb H w1 wr → wr.cell? ⟨A, 1, none⟩ = some (.slice (some ⟨H, 0, none⟩) (2 ^ b) kc)) := fun wr f => f.cell z1 (show A ≠ H by omega)
  have HR : Hid _ := hR
  have HB : Hid (∀ j, c j ≤ 35184372087808 ∧ c' j ≤ 35184372087808) := fun j => ⟨hc j, hc' j⟩
  have HF1 : Hid (Fb H w w1) := q1.fb H
  clear hT hR hc hc' z1 q1
  unfold talV
  generalize 2 ^ b = N at *
  go_enter Tryz.func45, Tryz.ntmps45
  go_wp2_with fail
  clear hw1 y1
  go_loopg [9] N (fun m s9 wr => ∃ i : Nat, s9 = .int .i64 (i : Int) ∧ i + m = N ∧ Hid (VR wr H N (fun j => .int .i64 (mgV c c' i j : Nat)) ∧ Fb H w1 wr))
  case atStart => exact ⟨0, rfl, by omega, H0.out.1, Fb.refl _ _⟩
  case round =>
    clear H0
    obtain ⟨i, rfl, hi, HX⟩ := hrel
    by_cases hlt : i < N
    · have cR := HR.out wr i hlt (HF1.out.trans HX.out.2) HX.out.1
      have cL := HX.out.1.cell i hlt
      rw [mgV_at] at cL
      have fz := HX.out.1.free i
      have cz := HZ.out wr HX.out.2
      have hb := HB.out i
      have HY : Hid (VR (wr.setCell ⟨H, i, none⟩ (.int .i64 ((c i + c' i : Nat) : Int))) H N (fun j => .int .i64 (mgV c c' (i + 1) j : Nat)) ∧ Fb H w1 (wr.setCell ⟨H, i, none⟩ (.int .i64 ((c i + c' i : Nat) : Int)))) := ⟨HX.out.1.put hlt (by rw [mgV_next]) (fun j hj hne => by rw [mgV_other _ _ hne]), HX.out.2.set rfl _⟩
      have hki : (i : Int) < (N : Int) := by omega
      generalize c i = p at *
      generalize c' i = q at *
      clear HX
      go_wp2_with fail
      go_roundg (N - (i + 1))
      case measure => go_light; omega
      case rel => go_light; exact ⟨i + 1, by go_num, by omega, HY⟩
    · obtain rfl : i = N := by omega
      have hge : ¬ (i : Int) < (i : Int) := by omega
      go_wp2_with fail
      refine bodyPost_end (results_none Tryz.results45 _ _ _) rfl ⟨rfl, HX.out.1.congr (fun j hj => by simp [mgV_all hj]), HF1.out.trans HX.out.2⟩
set_option maxHeartbeats 4000000 in
set_option maxRecDepth 100000 in
theorem smerge_bad (P A H b kc P' A' H' b' kc' : Nat) (L L' : List Nat) (w : World) (h : StAt w P A H b kc L) (h' : StAt w P' A' H' b' kc' L') (hb : b ≠ b') :
    Calls Tryz.prog 13 #[.pointer (some ⟨P, 0, none⟩), .pointer (some ⟨P', 0, none⟩)] w fun e w' => e = .returned (.int .i64 160) ∧ Q w w' := by
  have p1 := h.p1
  have p1' := h'.p1
  have d0 := qw_cell p1
  have d1 := qw_cell p1'
  have n0 := qw_some w
  have hne : ((b : Int) != (b' : Int)) = true := by simp; omega
  clear h h'
  go_enter Tryz.func13, Tryz.ntmps13
  go_wp2_with fail
  refine wp_region_quiet_Q (by kernel_rfl) (by kernel_rfl) ?_
  repeat (first | go_big_quiet_step (fail) | quiet_step (fail))
  refine wpQuiet_nil ?_
  intro w4 hw'
  have hq4 := qw_out hw'
  go_wp2_with fail
  go_ret
  exact ⟨rfl, hq4⟩
theorem vr_same {w : World} {H n : Nat} {c c' : Nat → Nat} (h : VR w H n (fun j => .int .i64 (c j : Nat))) (h' : VR w H n (fun j => .int .i64 (c' j : Nat))) {j : Nat} (hj : j < n) : c' j = c j := by
  have e := (h.cell j hj).symm.trans (h'.cell j hj)
  injection e with e
  injection e with _ e
  omega
set_option maxHeartbeats 8000000 in
set_option maxRecDepth 100000 in
theorem smerge_any (P A H b kc P' A' H' kc' : Nat) (L L' : List Nat) (w : World) (h : StAt w P A H b kc L) (h' : StAt w P' A' H' b kc' L') (hPA : P' ≠ A) (hPH : P' ≠ H) (hHA : H' ≠ A) (hL : L.length ≤ 1000000) (hL' : L'.length ≤ 1000000) :
    Calls Tryz.prog 13 #[.pointer (some ⟨P, 0, none⟩), .pointer (some ⟨P', 0, none⟩)] w fun e w' => e = .returned (.int .i64 0) ∧ StAt w' P A H b kc (L ++ L') ∧ Fr w w' (stB P A H) := by
  have p1 := h.p1
  have p1' := h'.p1
  have d0 := qw_cell p1
  have d1 := qw_cell p1'
  have n0 := qw_some w
  have hne : ((b : Int) != (b : Int)) = false := by simp
  have HC0 : Hid (1 ≤ b ∧ b ≤ 12 ∧ 2 ^ b ≤ kc ∧ P ≠ A ∧ P ≠ H ∧ A ≠ H) := ⟨h.b1, h.b2, h.cap, h.pa, h.ph, h.ah⟩
  have HC1 : Hid (2 ^ b ≤ kc') := h'.cap
  have HS : Hid (StAt w P A H b kc L) := h
  have HS' : Hid (StAt w P' A' H' b kc' L') := h'
  clear h h' p1 p1'
  go_enter Tryz.func13, Tryz.ntmps13
  go_wp2_with fail
  refine wp_region_quiet_Q (by kernel_rfl) (by kernel_rfl) ?_
  repeat (first | go_big_quiet_step (fail) | quiet_step (fail))
  refine wpQuiet_nil ?_
  intro w1 hw'
  have hq1 := qw_out hw'
  have HQ1 : Hid (Q w w1) := hq1
  have HS1 : Hid (StAt w1 P A H b kc L) := HS.out.next hq1
  have HS1' : Hid (StAt w1 P' A' H' b kc' L') := HS'.out.next hq1
  clear d0 d1 n0 hw' hq1 HS HS'
  have p0 := HS1.out.p0
  have p0' := HS1'.out.p0
  have d0 := qw_cell p0
  have d1 := qw_cell p0'
  have n0 := qw_some w1
  clear p0 p0'
  go_wp2_with fail
  refine wp_lastR 8 rfl _ rfl (by kernel_rfl) (by kernel_rfl) (by kernel_rfl) ?_
  simp only [List.take_succ_cons, List.take_zero]
  repeat (first | go_big_quiet_step (fail) | quiet_step (fail))
  refine wpQuiet_nil ?_
  intro n2 K2 hK2
  clear d0 d1 n0
  have HQ2 : Hid (Q w n2.x) := HQ1.out.trans n2.q
  have HS2 : Hid (StAt n2.x P A H b kc L) := HS1.out.next n2.q
  have HS2' : Hid (StAt n2.x P' A' H' b kc' L') := HS1'.out.next n2.q
  clear HQ1 HS1 HS1'
  generalize n2.x = w2 at *
  obtain ⟨N, hacc⟩ := HS2.out.acc
  obtain ⟨N', hacc'⟩ := HS2'.out.acc
  have KM := merge_any L L' A A' L.length L'.length N N' w2 hacc hacc' (by omega)
  clear hacc hacc'
  go_wp2_with fail
  refine Calls.mono KM ?_
  rintro e w3 ⟨rfl, hA3, f3⟩
  clear KM
  have HA3 : Hid (AccAt w3 A (L ++ L')) := ⟨_, by rw [List.length_append]; exact hA3⟩
  have HF3 : Hid (Fr w w3 (stB P A H)) := (HQ2.out.fr _).trans ⟨f3.os, f3.tape, f3.output, f3.size, fun x hx hr => f3.block x hx hr.2.1, f3.frz⟩
  have hPa := HC0.out.2.2.2.1
  have hHa : H ≠ A := fun e => HC0.out.2.2.2.2.2 e.symm
  have p0 := f3.cell HS2.out.p0 hPa
  have p1 := f3.cell HS2.out.p1 hPa
  have p2 := f3.cell HS2.out.p2 hPa
  have p3 := f3.cell HS2.out.p3 hPa
  have p4 := f3.cell HS2.out.p4 hPa
  have p5 := f3.cell HS2.out.p5 hPa
  have o1 := f3.cell HS2'.out.p1 hPA
  have o2 := f3.cell HS2'.out.p2 hPA
  have o3 := f3.cell HS2'.out.p3 hPA
  have o4 := f3.cell HS2'.out.p4 hPA
  have o5 := f3.cell HS2'.out.p5 hPA
  have hT3 : VR w3 H (2 ^ b) (fun j => .int .i64 ((clsC b L j : Nat) : Int)) := ⟨fun i hi => f3.cell (HS2.out.tal.cell i hi) hHa, fun j => (f3.frz _).trans (HS2.out.tal.free j)⟩
  have hT3' : VR w3 H' (2 ^ b) (fun j => .int .i64 ((clsC b L' j : Nat) : Int)) := ⟨fun i hi => f3.cell (HS2'.out.tal.cell i hi) hHA, fun j => (f3.frz _).trans (HS2'.out.tal.free j)⟩
  have HZ3 : Hid (∀ j, w3.frozen? ⟨P, j, none⟩ = false) := fun j => (f3.frz _).trans (HS2.out.fz j)
  clear hA3 f3 HQ2 HS2 HS2' hPa hHa
  have hcl : ∀ j, clsC b L j ≤ 35184372087808 := fun j => by have := clsC_le b L j; omega
  have hcl' : ∀ j, clsC b L' j ≤ 35184372087808 := fun j => by have := clsC_le b L' j; omega
  have HR : ∀ wr i, i < 2 ^ b → Fb H w3 wr → VR wr H (2 ^ b) (fun j => .int .i64 (mgV (clsC b L) (clsC b L') i j : Nat)) → wr.cell? ⟨H', i, none⟩ = some (.int .i64 (clsC b L' i : Nat)) := fun wr i hi f hv => by
    by_cases hh : H' = H
    · subst hh
      rw [vr_same hT3 hT3' hi, hv.cell i hi, mgV_at]
    · exact f.cell (hT3'.cell i hi) hh
  have KT : Hid _ := fun n : QW w3 => tmerge_any b H kc b H' kc' (clsC b L) (clsC b L') n.x HC0.out.2.1 (hT3.next n.q) (fun wr i hi f hv => HR wr i hi ((n.q.fb H).trans f) hv) HC0.out.2.2.1 HC1.out hcl hcl'
  clear hT3 hT3' hcl hcl' HR
  unfold talV at KT
  have dp1 := qw_cell p1
  have dp2 := qw_cell p2
  have do1 := qw_cell o1
  have do2 := qw_cell o2
  have n0 := qw_some w3
  go_wp2_with fail
  refine wp_lastR 8 rfl _ rfl (by kernel_rfl) (by kernel_rfl) (by kernel_rfl) ?_
  simp only [List.take_succ_cons, List.take_zero]
  repeat (first | go_big_quiet_step (fail) | quiet_step (fail))
  refine wpQuiet_nil ?_
  intro n3 K3 hK3
  clear dp1 dp2 do1 do2 n0
  have KT3 := KT.out n3
  have HF4 : Hid (Fr w n3.x (stB P A H)) := HF3.out.trans (n3.q.fr _)
  have HA4 : Hid (AccAt n3.x A (L ++ L')) := HA3.out.next n3.q
  have HZ4 : Hid (∀ j, n3.x.frozen? ⟨P, j, none⟩ = false) := fun j => by rw [n3.q.2]; exact HZ3.out j
  have p0 := n3.q.cell p0
  have p1 := n3.q.cell p1
  have p2 := n3.q.cell p2
  have p3 := n3.q.cell p3
  have p4 := n3.q.cell p4
  have p5 := n3.q.cell p5
  have o3 := n3.q.cell o3
  have o4 := n3.q.cell o4
  have o5 := n3.q.cell o5
  clear KT HF3 HA3 HZ3 o1 o2
  generalize n3.x = w4 at *
  go_wp2_with fail
  refine Calls.mono KT3 ?_
  rintro e w5 ⟨rfl, hT5, f5⟩
  have hPh := HC0.out.2.2.2.2.1
  have p0 := f5.cell p0 hPh
  have p1 := f5.cell p1 hPh
  have p2 := f5.cell p2 hPh
  have p3 := f5.cell p3 hPh
  have p4 := f5.cell p4 hPh
  have p5 := f5.cell p5 hPh
  have o3 := f5.cell o3 hPH
  have o4 := f5.cell o4 hPH
  have o5 := f5.cell o5 hPH
  have HA8 : Hid (AccAt w5 A (L ++ L')) := HA4.out.far f5 HC0.out.2.2.2.2.2
  have HZ8 : Hid (∀ j, w5.frozen? ⟨P, j, none⟩ = false) := fun j => (f5.frz _).trans (HZ4.out j)
  have HF8 : Hid (Fr w w5 (stB P A H)) := HF4.out.trans ⟨f5.os, f5.tape, f5.output, f5.size, fun x hx hr => f5.block x hx hr.2.2, f5.frz⟩
  have HT8 : Hid (VR w5 H (2 ^ b) (fun j => .int .i64 ((clsC b (L ++ L') j : Nat) : Int))) := hT5.congr fun j _ => by rw [clsC_append]
  clear HA4 HZ4 HF4 f5 hT5 hPh KT3
  have HWi : Hid (∀ n : QW w5, Calls Tryz.prog 46 #[.agg #[.int .u32 (lowK L : Nat), .int .u32 (topK L : Nat)], .agg #[.int .u32 (lowK L' : Nat), .int .u32 (topK L' : Nat)]] n.x fun e w' => e = .returned (.agg #[.int .u32 (lowK (L ++ L') : Nat), .int .u32 (topK (L ++ L') : Nat)]) ∧ Q n.x w') := fun n => by
    have := with_any (lowK L) (topK L) (lowK L') (topK L') n.x
    rw [← lowK_append, ← topK_append] at this
    exact this
  have dp3 := qw_cell p3
  have dp4 := qw_cell p4
  have do3 := qw_cell o3
  have do4 := qw_cell o4
  have n0 := qw_some w5
  go_wp2_with fail
  refine wp_lastR 12 rfl _ rfl (by kernel_rfl) (by kernel_rfl) (by kernel_rfl) ?_
  simp only [List.take_succ_cons, List.take_zero]
  repeat (first | go_big_quiet_step (first | (go_at_call 46; exact calls_qw (HWi.out _))) | quiet_step (first | (go_at_call 46; exact calls_qw (HWi.out _))))
  refine wpQuiet_nil ?_
  intro n5 K5 hK5
  clear dp3 dp4 do3 do4 n0 HWi
  have p0 := n5.q.cell p0
  have p1 := n5.q.cell p1
  have p2 := n5.q.cell p2
  have p3 := n5.q.cell p3
  have p4 := n5.q.cell p4
  have p5 := n5.q.cell p5
  have o5 := n5.q.cell o5
  have HA9 : Hid (AccAt n5.x A (L ++ L')) := HA8.out.next n5.q
  have HZ9 : ∀ j, n5.x.frozen? ⟨P, j, none⟩ = false := fun j => by rw [n5.q.2]; exact HZ8.out j
  have HF9 : Hid (Fr w n5.x (stB P A H)) := HF8.out.trans (n5.q.fr _)
  have HT9 : Hid (VR n5.x H (2 ^ b) (fun j => .int .i64 ((clsC b (L ++ L') j : Nat) : Int))) := HT8.out.next n5.q
  clear HA8 HZ8 HF8 HT8 o3 o4
  generalize n5.x = w9 at *
  go_wp2_with fail
  have hPA2 := HC0.out.2.2.2.1
  have hPH2 := HC0.out.2.2.2.2.1
  obtain ⟨y, hy⟩ : ∃ y, (w9.setCell ⟨P, 3, none⟩ (.int .u32 (lowK (L ++ L') : Nat))).setCell ⟨P, 4, none⟩ (.int .u32 (topK (L ++ L') : Nat)) = y := ⟨_, rfl⟩
  have cE : ∀ Bk j v, Bk ≠ P → w9.cell? ⟨Bk, j, none⟩ = some v → y.cell? ⟨Bk, j, none⟩ = some v := fun Bk j v hne hc => by
    rw [← hy, World.cell?_setCell_other _ _ _ _ (fun e => by injection e with e; omega), World.cell?_setCell_other _ _ _ _ (fun e => by injection e with e; omega)]; exact hc
  have cP : ∀ Bk j v, j ≠ 3 → j ≠ 4 → w9.cell? ⟨Bk, j, none⟩ = some v → y.cell? ⟨Bk, j, none⟩ = some v := fun Bk j v h3 h4 hc => by
    rw [← hy, World.cell?_setCell_other _ _ _ _ (fun e => by injection e with _ e; omega), World.cell?_setCell_other _ _ _ _ (fun e => by injection e with _ e; omega)]; exact hc
  have p0' := cP P 0 _ (by decide) (by decide) p0
  have p1' := cP P 1 _ (by decide) (by decide) p1
  have p2' := cP P 2 _ (by decide) (by decide) p2
  have p5' := cP P 5 _ (by decide) (by decide) p5
  have o5' := cP P' 5 _ (by decide) (by decide) o5
  have p4' : y.cell? ⟨P, 4, none⟩ = some (.int .u32 (topK (L ++ L') : Nat)) := by
    rw [← hy]; exact set_same (u := .int .u32 (topK L : Nat)) (by rw [set_off (by decide)]; exact p4)
  have p3' : y.cell? ⟨P, 3, none⟩ = some (.int .u32 (lowK (L ++ L') : Nat)) := by
    rw [← hy, set_off (by decide)]; exact set_same p3
  have fzy : ∀ a : Addr, y.frozen? a = w9.frozen? a := fun a => by rw [← hy, World.frozen?_setCell, World.frozen?_setCell]
  have HAy : Hid (AccAt y A (L ++ L')) := by
    obtain ⟨N', h'⟩ := HA9
    exact ⟨N', fun j hj => cE A j _ (fun e => hPA2 e.symm) (h'.n j hj), h'.r, cE A 5 _ (fun e => hPA2 e.symm) h'.m, cE A 6 _ (fun e => hPA2 e.symm) h'.c, fun j => (fzy _).trans (h'.z j)⟩
  have HTy : Hid (VR y H (2 ^ b) (fun j => .int .i64 ((clsC b (L ++ L') j : Nat) : Int))) := ⟨fun j hj => cE H j _ (fun e => hPH2 e.symm) (HT9.out.cell j hj), fun j => (fzy _).trans (HT9.out.free j)⟩
  have HZy : Hid (∀ j, y.frozen? ⟨P, j, none⟩ = false) := fun j => (fzy _).trans (HZ9 j)
  have HFy : Hid (Fr w y (stB P A H)) := by
    show Fr w y (stB P A H)
    rw [← hy]
    exact (HF9.out.set (fun e => e.1 rfl) _).set (fun e => e.1 rfl) _
  rw [hy]
  clear hy cE cP p0 p1 p2 p3 p4 p5 o5 fzy HA9 HT9 HZ9 HF9
  have hnc : nanC L ≤ L.length := List.countP_le_length
  have hnc' : nanC L' ≤ L'.length := List.countP_le_length
  have dp5 := qw_cell p5'
  have do5 := qw_cell o5'
  have n0 := qw_some y
  refine wp_lastR 11 rfl _ rfl (by kernel_rfl) (by kernel_rfl) (by kernel_rfl) ?_
  simp only [List.take_succ_cons, List.take_zero]
  repeat (first | go_big_quiet_step (fail) | quiet_step (fail))
  refine wpQuiet_nil ?_
  intro n4 K4 hK4
  clear dp5 do5 n0
  have p0 := n4.q.cell p0'
  have p1 := n4.q.cell p1'
  have p2 := n4.q.cell p2'
  have p3 := n4.q.cell p3'
  have p4 := n4.q.cell p4'
  have p5 := n4.q.cell p5'
  have HAz : Hid (AccAt n4.x A (L ++ L')) := HAy.out.next n4.q
  have HZz : ∀ j, n4.x.frozen? ⟨P, j, none⟩ = false := fun j => by rw [n4.q.2]; exact HZy.out j
  have HFz : Hid (Fr w n4.x (stB P A H)) := HFy.out.trans (n4.q.fr _)
  have HTz : Hid (VR n4.x H (2 ^ b) (fun j => .int .i64 ((clsC b (L ++ L') j : Nat) : Int))) := HTy.out.next n4.q
  clear HAy HZy HFy HTy p0' p1' p2' p3' p4' p5' o5'
  generalize n4.x = z at *
  go_wp2_with fail
  go_ret
  refine ⟨rfl, ?_, HFz.out.set (fun e => e.1 rfl) _⟩
  have cE : ∀ Bk j v u, Bk ≠ P → z.cell? ⟨Bk, j, none⟩ = some v → (z.setCell ⟨P, 5, none⟩ u).cell? ⟨Bk, j, none⟩ = some v := fun Bk j v u hne hc => by
    rw [World.cell?_setCell_other _ _ _ _ (fun e => by injection e with e; omega)]; exact hc
  refine ⟨HC0.out.1, HC0.out.2.1, ?_, ?_, ?_, ?_, ?_, ?_, ?_, ?_, ?_, HC0.out.2.2.1, hPA2, hPH2, HC0.out.2.2.2.2.2⟩
  · rw [set_off (by decide)]; exact p0
  · rw [set_off (by decide)]; exact p1
  · rw [set_off (by decide)]; exact p2
  · rw [set_off (by decide)]; exact p3
  · rw [set_off (by decide)]; exact p4
  · have e3 : ((nanC L : Int) + (nanC L' : Int)) = ((nanC (L ++ L') : Nat) : Int) := by rw [nanC_append]; omega
    rw [e3]; exact set_same p5
  · intro j; rw [World.frozen?_setCell]; exact HZz j
  · obtain ⟨N', h'⟩ := HAz
    exact ⟨N', fun j hj => cE A j _ _ (fun e => hPA2 e.symm) (h'.n j hj), h'.r, cE A 5 _ _ (fun e => hPA2 e.symm) h'.m, cE A 6 _ _ (fun e => hPA2 e.symm) h'.c, fun j => by rw [World.frozen?_setCell]; exact h'.z j⟩
  · exact ⟨fun j hj => cE H j _ _ (fun e => hPH2 e.symm) (HTz.out.cell j hj), fun j => by rw [World.frozen?_setCell]; exact HTz.out.free j⟩
end Go.Proofs.YtieojgblamkgoaaGreatDoor
/- stat: a plane's samples in parts (the statements' helper all). -/
namespace Go.Proofs.YtieojgblamkgoaaGreatDoor
open Go.RowKit
set_option linter.unusedVariables false
set_option linter.unusedSimpArgs false

theorem run_mnI {P : Program} (ts : Array TypeId) (t : TypeId) (x y : Int) (w : World) : (Builtin.min_ ts t #[.int .i64 x, .int .i64 y]).run P w = .ok (.int .i64 (min x y)) w := by
  rcases Int.lt_or_le y x with h | h
  · simp [go_sem, h]
  · simp [go_sem, Int.not_lt.2 h]
theorem run_mxI {P : Program} (ts : Array TypeId) (t : TypeId) (x y : Int) (w : World) : (Builtin.max_ ts t #[.int .i64 x, .int .i64 y]).run P w = .ok (.int .i64 (max x y)) w := by
  rcases Int.lt_or_le x y with h | h
  · simp [go_sem, h]
  · simp [go_sem, Int.not_lt.2 h]
/-- Whole rows of a plane. -/
theorem crop_rows {a b y0 d : Nat} {S : List Nat} (ha : 1 ≤ a) (hl : S.length = a * b) (hd : y0 + d ≤ b) : crL a 0 y0 a d S = (S.drop (y0 * a)).take (d * a) := by
  have hlen : y0 * a + d * a ≤ S.length := by
    rw [hl, ← Nat.add_mul, Nat.mul_comm a b]
    exact Nat.mul_le_mul_right _ hd
  apply List.ext_getElem?
  intro i
  rcases Nat.lt_or_ge i (d * a) with h | h
  · rw [List.getElem?_take, if_pos h, List.getElem?_drop]
    have h2 : i < a * d := by rw [Nat.mul_comm]; exact h
    have e1 : (crL a 0 y0 a d S)[i]? = some ((crL a 0 y0 a d S).getD i 0) := by
      have hi : i < (crL a 0 y0 a d S).length := by unfold crL; rw [tab_length]; exact h2
      rw [List.getD_eq_getElem?_getD, List.getElem?_eq_getElem hi]; rfl
    have hS : y0 * a + i < S.length := by omega
    rw [e1]
    unfold crL
    rw [tab_get h2]
    unfold smp
    rw [show (y0 + i / a) * a + (0 + i % a) = y0 * a + i by
      have := Nat.div_add_mod i a
      rw [Nat.add_mul, Nat.mul_comm (i / a) a]; omega]
    rw [List.getD_eq_getElem?_getD, List.getElem?_eq_getElem hS]; rfl
  · rw [List.getElem?_eq_none (by unfold crL; rw [tab_length, Nat.mul_comm]; exact h), List.getElem?_eq_none (by rw [List.length_take, List.length_drop]; omega)]
theorem rows_join {a b y0 d : Nat} {S : List Nat} (ha : 1 ≤ a) (hl : S.length = a * b) (hd : y0 + d ≤ b) : S.take ((y0 + d) * a) = S.take (y0 * a) ++ crL a 0 y0 a d S := by
  rw [crop_rows ha hl hd, Nat.add_mul, List.take_add]
/-- Where the next part ends. -/
def cutTo (C : List Int) (i at_ pb : Nat) : Nat := if i < C.length then (min (max (C.getD i 0) ((at_ : Int) + 1)) (pb : Int)).toNat else pb
theorem cutTo_ok {C : List Int} {i at_ pb : Nat} (h : at_ < pb) : at_ < cutTo C i at_ pb ∧ cutTo C i at_ pb ≤ pb := by
  unfold cutTo
  split <;> omega
set_option maxHeartbeats 8000000 in
set_option maxRecDepth 100000 in
theorem all_any (pa pb g o cap b : Nat) (S : List Nat) (cv : Value) (C : List Int) (back : Bool) (w : World) (h1 : 1 ≤ b) (h2 : b ≤ 12) (hp : Pl w g o S.length cap pa pb S) (hc : ISl w cv C) (hb : ∀ i, S.getD i 0 < 4294967296) (hC : C.length ≤ 1000000) :
    Calls Tryz.prog 27 #[.agg #[.int .i64 (pa : Int), .int .i64 (pb : Int), .slice (some ⟨g, o, none⟩) S.length cap], .int .i64 (b : Int), cv, .bool back] w fun e w' => ∃ P A H kc L, e = .returned (.pointer (some ⟨P, 0, none⟩)) ∧ StAt w' P A H b kc L ∧ L.Perm S ∧ (w.heap.size ≤ P ∧ w.heap.size ≤ A ∧ w.heap.size ≤ H) ∧ Q w w' := by
  obtain ⟨ca, cc, rfl⟩ := hc.form
  obtain ⟨w1, hw1⟩ : ∃ w1, w.alloc (.cells #[.int .i64 (pa : Int), .int .i64 (pb : Int), .slice (some ⟨g, o, none⟩) S.length cap] 26) = w1 := ⟨_, rfl⟩
  obtain ⟨B, hB⟩ : ∃ B, w.heap.size = B := ⟨_, rfl⟩
  have q1 : Q w w1 := by rw [← hw1]; exact (Q.refl w).cells _ _
  have z0 : w1.cell? ⟨B, 0, none⟩ = some (.int .i64 (pa : Int)) := by rw [← hw1, ← hB]; simp [go_sem]
  have z1 : w1.cell? ⟨B, 1, none⟩ = some (.int .i64 (pb : Int)) := by rw [← hw1, ← hB]; simp [go_sem]
  have z2 : w1.cell? ⟨B, 2, none⟩ = some (.slice (some ⟨g, o, none⟩) S.length cap) := by rw [← hw1, ← hB]; simp [go_sem]
  have HQ1 : Hid (Q w w1) := q1
  have HZ : Hid (∀ x, Q w1 x → x.cell? ⟨B, 0, none⟩ = some (.int .i64 (pa : Int)) ∧ x.cell? ⟨B, 1, none⟩ = some (.int .i64 (pb : Int)) ∧ x.cell? ⟨B, 2, none⟩ = some (.slice (some ⟨g, o, none⟩) S.length cap)) := fun x q => ⟨q.cell z0, q.cell z1, q.cell z2⟩
  have hsz := hp.size
  have ha1 := hsz.a1
  have ha2 := hsz.a2
  have hb1 := hsz.b1
  have hb2 := hsz.b2
  have hSl : S.length ≤ 65536 := by rw [hp.len]; exact hsz.ab
  have HP : Hid (∀ x, Q w1 x → Pl x g o S.length cap pa pb S) := fun x q => (hp.next q1).next q
  have HI : Hid (ISl w (.slice ca C.length cc) C) := hc
  have HB : Hid (∀ i, S.getD i 0 < 4294967296) := hb
  have HL : Hid (S.length = pa * pb) := hp.len
  clear hp hc hb z0 z1 z2 q1
  go_enter Tryz.func27, Tryz.ntmps27
  go_wp2_with fail
  clear hw1
  refine Calls.mono (snew_good b h1 h2 _) ?_
  rintro e w2 ⟨P, A, H, kc, rfl, lP, lA, lH, hS, q2⟩
  have HS2 : Hid (∃ P' A H kc L, P' = P ∧ StAt w2 P' A H b kc L ∧ L.Perm (S.take (0 * pa)) ∧ (w1.heap.size ≤ P' ∧ w1.heap.size ≤ A ∧ w1.heap.size ≤ H) ∧ Q w1 w2) := ⟨P, A, H, kc, [], rfl, hS, by rw [Nat.zero_mul, List.take_zero], ⟨lP, lA, lH⟩, q2⟩
  clear hS q2 lP lA lH
  go_wp2_with fail
  go_loopg [9, 11, 12] (C.length + 1) (fun m s9 s11 s12 wr => ∃ (P i a : Nat), s9 = .pointer (some ⟨P, 0, none⟩) ∧ s11 = .int .i64 (a : Int) ∧ s12 = .int .i64 (i : Int) ∧ i + m = C.length + 1 ∧ (a ≤ pb ∧ (i = C.length + 1 → a = pb)) ∧ Hid (∃ P' A H kc L, P' = P ∧ StAt wr P' A H b kc L ∧ L.Perm (S.take (a * pa)) ∧ (w1.heap.size ≤ P' ∧ w1.heap.size ≤ A ∧ w1.heap.size ≤ H) ∧ Q w1 wr))
  case atStart => exact ⟨P, 0, 0, rfl, rfl, rfl, by omega, ⟨by omega, by omega⟩, HS2⟩
  case round =>
    clear HS2
    obtain ⟨P, i, a, rfl, rfl, rfl, hi, hab, HX⟩ := hrel
    obtain ⟨P', A, H, kc, L, rfl, hS, hperm, hlow, hq⟩ := HX.out
    have hz := HZ.out wr hq
    have hz0 := hz.1
    have hz1 := hz.2.1
    have hz2 := hz.2.2
    clear hz
    by_cases hend : i ≤ C.length ∧ a < pb
    · obtain ⟨k1, k2⟩ := hend
      have k1' : (i : Int) ≤ (C.length : Int) := by omega
      have k2' : (a : Int) < (pb : Int) := by omega
      clear HX
      by_cases k3 : i < C.length
      · have k3' : (i : Int) < (C.length : Int) := by omega
        obtain ⟨cg, co, ccap, hcv, hcI⟩ := HI.out.some (by omega)
        injection hcv with hc1 hc2 hc3
        subst hc1 hc3
        clear hc2
        have cI := (HQ1.out.trans hq).cell (hcI i k3)
        obtain ⟨z, hzv⟩ : ∃ z, C.getD i 0 = z := ⟨_, rfl⟩
        rw [hzv] at cI
        obtain ⟨t, ht⟩ : ∃ t : Nat, min (max z ((a : Int) + 1)) (pb : Int) = (t : Int) := ⟨(min (max z ((a : Int) + 1)) (pb : Int)).toNat, by omega⟩
        have htb : a < t ∧ t ≤ pb := by omega
        have m1 : ∀ ts t w, (Builtin.max_ ts t #[.int .i64 z, .int .i64 ((a : Int) + 1)]).run Tryz.prog w = .ok (.int .i64 (max z ((a : Int) + 1))) w := fun ts t w => run_mxI ts t _ _ w
        have m2 : ∀ ts tt w, (Builtin.min_ ts tt #[.int .i64 (max z ((a : Int) + 1)), .int .i64 (pb : Int)]).run Tryz.prog w = .ok (.int .i64 (t : Int)) w := fun ts tt w => by rw [run_mnI, ht]
        have d0 := qw_cell hz1
        have d1 := qw_cell cI
        have n0 := qw_some wr
        generalize max z ((a : Int) + 1) = mx at *
        clear hcI hzv ht
        go_wp2_with fail
        refine wp_region_quiet_Q (by kernel_rfl) (by kernel_rfl) ?_
        repeat (first | go_big_quiet_step (fail) | quiet_step (fail))
        refine wpQuiet_nil ?_
        intro w3 hw'
        have hq3 := qw_out hw'
        have HSq : StAt w3 P' A H b kc L := hS.next hq3
        have HQq : Q w1 w3 := hq.trans hq3
        clear d0 d1 n0 hw' m1 m2 cI hz0 hz1 hz2
        go_wp2_with fail
        refine Calls.mono (snew_good b h1 h2 _) ?_
        rintro e w4 ⟨PP, AA, HH, kk, rfl, lP, lA, lH, hN, q4⟩
        have HN4 : Hid (StAt w4 PP AA HH b kk []) := hN
        have hz4 := HZ.out w4 (HQq.trans q4)
        have g0 := hz4.1
        have g1 := hz4.2.1
        have g2 := hz4.2.2
        have hrc : Rct pa pb 0 a pa (t - a) := ⟨ha1, by omega, by omega, by omega⟩
        have hCb : ∀ i, (crL pa 0 a pa (t - a) S).getD i 0 < 4294967296 := fun i => by
          rw [crop_rows ha1 HL.out (by omega)]
          rw [List.getD_eq_getElem?_getD, List.getElem?_take]
          split
          · rw [List.getElem?_drop, ← List.getD_eq_getElem?_getD]; exact HB.out _
          · decide
        have hjoin := rows_join (d := t - a) ha1 HL.out (show a + (t - a) ≤ pb by omega)
        rw [show a + (t - a) = t by omega] at hjoin
        have KA := sadd_good PP AA HH b kk [] w4 HN4.out (HP.out w4 (HQq.trans q4)) hrc (pa : Int) (t : Int) (by omega) (by omega) hCb (by decide)
        rw [List.nil_append] at KA
        have hcl : (crL pa 0 a pa (t - a) S).length ≤ 65536 := by
          rw [crop_rows ha1 HL.out (by omega), List.length_take, List.length_drop]; omega
        generalize crL pa 0 a pa (t - a) S = D at *
        have HJ : Hid (S.take (t * pa) = S.take (a * pa) ++ D) := hjoin
        have HS4 : Hid (StAt w4 P' A H b kc L) := HSq.next q4
        have HQ4 : Hid (Q w1 w4) := HQq.trans q4
        have hlt4 := HSq.lt
        have hqs := HQq.1.size
        have hq4s := q4.1.size
        have HKA : Hid _ := KA
        have hlt5 := hN.lt
        clear hN hCb hjoin hrc hz4 q4 KA
        go_wp2_with fail
        refine Calls.mono HKA.out ?_
        rintro e w5 ⟨rfl, hN5, f5⟩
        have HN5 : Hid (StAt w5 PP AA HH b kk D) := hN5
        have HS5 : Hid (StAt w5 P' A H b kc L) := HS4.out.keep f5 ⟨by omega, by omega, by omega⟩ ⟨by omega, by omega, by omega⟩ ⟨by omega, by omega, by omega⟩
        have HQ5 : Hid (Q w1 w5) := f5.q HQ4.out (fun b' hb' => ⟨by omega, by omega, by omega⟩)
        have hf5 := f5.size
        have hLl : L.length ≤ 65536 := by rw [hperm.length_eq, List.length_take]; omega
        have hLl2 : D.length ≤ 1000000 := by omega
        clear hN5 f5 HKA HN4 HS4 HQ4
        cases back
        · have KM := smerge_any P' A H b kc PP AA HH kk L D w5 HS5.out HN5.out (by omega) (by omega) (by omega) (by omega) hLl2
          have HKM : Hid _ := KM
          clear KM
          go_wp2_with fail
          refine Calls.mono HKM.out ?_
          rintro e w6 ⟨rfl, hS6, f6⟩
          have HX6 : Hid (∃ P'' A H kc L, P'' = P' ∧ StAt w6 P'' A H b kc L ∧ L.Perm (S.take (t * pa)) ∧ (w1.heap.size ≤ P'' ∧ w1.heap.size ≤ A ∧ w1.heap.size ≤ H) ∧ Q w1 w6) := by
            refine ⟨P', A, H, kc, L ++ D, rfl, hS6, ?_, hlow, f6.q HQ5.out (fun b' hb' => ⟨by omega, by omega, by omega⟩)⟩
            rw [HJ.out]
            exact hperm.append_right D
          clear hS6 f6 HKM HS5 HN5 HQ5 HJ
          go_wp2_with fail
          go_roundg (C.length + 1 - (i + 1))
          case measure => go_light; omega
          case rel => go_light; exact ⟨P', i + 1, t, rfl, rfl, by simp, by omega, ⟨by omega, by intro h; omega⟩, HX6⟩
        · have KM := smerge_any PP AA HH b kk P' A H kc D L w5 HN5.out HS5.out (by omega) (by omega) (by omega) hLl2 (by omega)
          have HKM : Hid _ := KM
          clear KM
          go_wp2_with fail
          refine Calls.mono HKM.out ?_
          rintro e w6 ⟨rfl, hS6, f6⟩
          have HX6 : Hid (∃ P'' A H kc L, P'' = PP ∧ StAt w6 P'' A H b kc L ∧ L.Perm (S.take (t * pa)) ∧ (w1.heap.size ≤ P'' ∧ w1.heap.size ≤ A ∧ w1.heap.size ≤ H) ∧ Q w1 w6) := by
            refine ⟨PP, AA, HH, kk, D ++ L, rfl, hS6, ?_, ⟨by omega, by omega, by omega⟩, f6.q HQ5.out (fun b' hb' => ⟨by omega, by omega, by omega⟩)⟩
            rw [HJ.out]
            exact List.perm_append_comm.trans (hperm.append_right D)
          clear hS6 f6 HKM HS5 HN5 HQ5 HJ
          go_wp2_with fail
          go_roundg (C.length + 1 - (i + 1))
          case measure => go_light; omega
          case rel => go_light; exact ⟨PP, i + 1, t, rfl, rfl, by simp, by omega, ⟨by omega, by intro h; omega⟩, HX6⟩
      · have k3' : ¬ (i : Int) < (C.length : Int) := by omega
        have htb : a < pb ∧ pb ≤ pb := by omega
        go_wp2_with fail
        refine Calls.mono (snew_good b h1 h2 _) ?_
        rintro e w4 ⟨PP, AA, HH, kk, rfl, lP, lA, lH, hN, q4⟩
        have HN4 : Hid (StAt w4 PP AA HH b kk []) := hN
        have hz4 := HZ.out w4 (hq.trans q4)
        have g0 := hz4.1
        have g1 := hz4.2.1
        have g2 := hz4.2.2
        have hrc : Rct pa pb 0 a pa (pb - a) := ⟨ha1, by omega, by omega, by omega⟩
        have hCb : ∀ i, (crL pa 0 a pa (pb - a) S).getD i 0 < 4294967296 := fun i => by
          rw [crop_rows ha1 HL.out (by omega)]
          rw [List.getD_eq_getElem?_getD, List.getElem?_take]
          split
          · rw [List.getElem?_drop, ← List.getD_eq_getElem?_getD]; exact HB.out _
          · decide
        have hjoin := rows_join (d := pb - a) ha1 HL.out (show a + (pb - a) ≤ pb by omega)
        rw [show a + (pb - a) = pb by omega] at hjoin
        have KA := sadd_good PP AA HH b kk [] w4 HN4.out (HP.out w4 (hq.trans q4)) hrc (pa : Int) (pb : Int) (by omega) (by omega) hCb (by decide)
        rw [List.nil_append] at KA
        have hcl : (crL pa 0 a pa (pb - a) S).length ≤ 65536 := by
          rw [crop_rows ha1 HL.out (by omega), List.length_take, List.length_drop]; omega
        generalize crL pa 0 a pa (pb - a) S = D at *
        have HJ : Hid (S.take (pb * pa) = S.take (a * pa) ++ D) := hjoin
        have HS4 : Hid (StAt w4 P' A H b kc L) := hS.next q4
        have HQ4 : Hid (Q w1 w4) := hq.trans q4
        have hlt4 := hS.lt
        have hqs := hq.1.size
        have hq4s := q4.1.size
        have HKA : Hid _ := KA
        have hlt5 := hN.lt
        clear hN hCb hjoin hrc hz4 q4 KA
        go_wp2_with fail
        refine Calls.mono HKA.out ?_
        rintro e w5 ⟨rfl, hN5, f5⟩
        have HN5 : Hid (StAt w5 PP AA HH b kk D) := hN5
        have HS5 : Hid (StAt w5 P' A H b kc L) := HS4.out.keep f5 ⟨by omega, by omega, by omega⟩ ⟨by omega, by omega, by omega⟩ ⟨by omega, by omega, by omega⟩
        have HQ5 : Hid (Q w1 w5) := f5.q HQ4.out (fun b' hb' => ⟨by omega, by omega, by omega⟩)
        have hf5 := f5.size
        have hLl : L.length ≤ 65536 := by rw [hperm.length_eq, List.length_take]; omega
        have hLl2 : D.length ≤ 1000000 := by omega
        clear hN5 f5 HKA HN4 HS4 HQ4
        cases back
        · have KM := smerge_any P' A H b kc PP AA HH kk L D w5 HS5.out HN5.out (by omega) (by omega) (by omega) (by omega) hLl2
          have HKM : Hid _ := KM
          clear KM
          go_wp2_with fail
          refine Calls.mono HKM.out ?_
          rintro e w6 ⟨rfl, hS6, f6⟩
          have HX6 : Hid (∃ P'' A H kc L, P'' = P' ∧ StAt w6 P'' A H b kc L ∧ L.Perm (S.take (pb * pa)) ∧ (w1.heap.size ≤ P'' ∧ w1.heap.size ≤ A ∧ w1.heap.size ≤ H) ∧ Q w1 w6) := by
            refine ⟨P', A, H, kc, L ++ D, rfl, hS6, ?_, hlow, f6.q HQ5.out (fun b' hb' => ⟨by omega, by omega, by omega⟩)⟩
            rw [HJ.out]
            exact hperm.append_right D
          clear hS6 f6 HKM HS5 HN5 HQ5 HJ
          go_wp2_with fail
          go_roundg (C.length + 1 - (i + 1))
          case measure => go_light; omega
          case rel => go_light; exact ⟨P', i + 1, pb, rfl, rfl, by simp, by omega, ⟨by omega, by intro h; omega⟩, HX6⟩
        · have KM := smerge_any PP AA HH b kk P' A H kc D L w5 HN5.out HS5.out (by omega) (by omega) (by omega) hLl2 (by omega)
          have HKM : Hid _ := KM
          clear KM
          go_wp2_with fail
          refine Calls.mono HKM.out ?_
          rintro e w6 ⟨rfl, hS6, f6⟩
          have HX6 : Hid (∃ P'' A H kc L, P'' = PP ∧ StAt w6 P'' A H b kc L ∧ L.Perm (S.take (pb * pa)) ∧ (w1.heap.size ≤ P'' ∧ w1.heap.size ≤ A ∧ w1.heap.size ≤ H) ∧ Q w1 w6) := by
            refine ⟨PP, AA, HH, kk, D ++ L, rfl, hS6, ?_, ⟨by omega, by omega, by omega⟩, f6.q HQ5.out (fun b' hb' => ⟨by omega, by omega, by omega⟩)⟩
            rw [HJ.out]
            exact List.perm_append_comm.trans (hperm.append_right D)
          clear hS6 f6 HKM HS5 HN5 HQ5 HJ
          go_wp2_with fail
          go_roundg (C.length + 1 - (i + 1))
          case measure => go_light; omega
          case rel => go_light; exact ⟨PP, i + 1, pb, rfl, rfl, by simp, by omega, ⟨by omega, by intro h; omega⟩, HX6⟩
    · have HF : Hid (StAt wr P' A H b kc L ∧ L.Perm S ∧ (w.heap.size ≤ P' ∧ w.heap.size ≤ A ∧ w.heap.size ≤ H) ∧ Q w wr) := by
        have hae : a = pb := by
          rcases Nat.lt_or_ge a pb with k | k
          · exact hab.2 (by omega)
          · omega
        rw [hae, Nat.mul_comm, ← HL.out, List.take_of_length_le (Nat.le_refl _)] at hperm
        have := HQ1.out.1.size
        exact ⟨hS, hperm, ⟨by omega, by omega, by omega⟩, HQ1.out.trans hq⟩
      clear hS hperm hlow HX
      by_cases k1 : i ≤ C.length
      · have k2 : ¬ (a : Int) < (pb : Int) := by omega
        have k1' : (i : Int) ≤ (C.length : Int) := by omega
        go_wp2_with fail
        go_ret
        exact ⟨P', rfl, A, H, kc, L, HF.out.1, HF.out.2.1, by have := HF.out.2.2.1; omega, HF.out.2.2.2⟩
      · have k1' : ¬ (i : Int) ≤ (C.length : Int) := by omega
        go_wp2_with fail
        go_ret
        exact ⟨P', rfl, A, H, kc, L, HF.out.1, HF.out.2.1, by have := HF.out.2.2.1; omega, HF.out.2.2.2⟩
end Go.Proofs.YtieojgblamkgoaaGreatDoor
/- Lists of whole numbers held against one another. -/
namespace Go.Proofs.YtieojgblamkgoaaGreatDoor
open Go.RowKit
set_option linter.unusedVariables false
set_option linter.unusedSimpArgs false

set_option maxHeartbeats 2000000 in
set_option maxRecDepth 100000 in
/-- halidehelp.Ints: the same lists? -/
theorem ints_any (v u : Value) (L M : List Int) (w : World) (hv : ISl w v L) (hu : ISl w u M) (hn : L.length ≤ 100000) (hm : M.length ≤ 100000) :
    Calls Tryz.prog 49 #[v, u] w fun e w' => e = .returned (.bool (decide (L = M))) ∧ Q w w' := by
  obtain ⟨ad, c, rfl⟩ := hv.form
  obtain ⟨ad2, c2, rfl⟩ := hu.form
  by_cases hl : L.length = M.length
  · obtain ⟨B, hB⟩ : ∃ B, decide (L = M) = B := ⟨_, rfl⟩
    have HB : Hid (decide (L = M) = B) := hB
    rw [hB]
    obtain ⟨N, eN⟩ : ∃ N, L.length = N := ⟨_, rfl⟩
    have HV : Hid (ISl w (.slice ad N c) L ∧ L.length = N) := ⟨by rw [← eN]; exact hv, eN⟩
    have HU : Hid (ISl w (.slice ad2 N c2) M ∧ M.length = N) := ⟨by rw [← eN, hl]; exact hu, by rw [← eN, hl]⟩
    rw [← hl, eN]
    rw [eN] at hn
    clear hv hu hl eN hB hm
    go_enter Tryz.func49, Tryz.ntmps49
    go_wp2_with fail
    go_loopg [5] N (fun gh s5 wr => ∃ i : Nat, s5 = .int .i64 (i : Int) ∧ i ≤ N ∧ gh = N - i ∧ Hid (∀ j, j < i → L.getD j 0 = M.getD j 0) ∧ Hid (Q w wr))
    case atStart => exact ⟨0, rfl, Nat.zero_le _, rfl, fun j hj => absurd hj (by omega), Q.refl w⟩
    case round =>
      obtain ⟨i, rfl, hi, rfl, HS, HQ⟩ := hrel
      by_cases hlt : i < N
      · have hltz : (i : Int) < (N : Int) := by omega
        obtain ⟨g1, o1, d1, hs1, hI1⟩ := HV.out.1.some (by have := HV.out.2; omega)
        rw [HV.out.2] at hs1 hI1
        injection hs1 with e1 e2 e3
        subst e1 e3
        obtain ⟨g2, o2, d2, hs2, hI2⟩ := HU.out.1.some (by have := HU.out.2; omega)
        rw [HU.out.2] at hs2 hI2
        injection hs2 with f1 f2 f3
        subst f1 f3
        have k1 := qw_cell (HQ.out.cell (hI1 i hlt))
        have k2 := qw_cell (HQ.out.cell (hI2 i hlt))
        have n0 := qw_some wr
        obtain ⟨x, hx⟩ : ∃ x, L.getD i 0 = x := ⟨_, rfl⟩
        obtain ⟨y, hy⟩ : ∃ y, M.getD i 0 = y := ⟨_, rfl⟩
        rw [hx] at k1
        rw [hy] at k2
        have HX : Hid (L.getD i 0 = x ∧ M.getD i 0 = y) := ⟨hx, hy⟩
        clear hx hy hI1 hI2 e2 f2
        go_wp2_with fail
        refine wp_region_quiet_Q (by kernel_rfl) (by kernel_rfl) ?_
        repeat (first | go_big_quiet_step (fail) | quiet_step (fail))
        refine wpQuiet_nil ?_
        intro w4 hw'
        have HQ4 : Hid (Q w w4) := HQ.out.trans (qw_out hw')
        clear hw' k1 k2 n0
        by_cases hxy : x = y
        · subst hxy
          have HS2 : Hid (∀ j, j < i + 1 → L.getD j 0 = M.getD j 0) := fun j hj => by
            by_cases e : j = i
            · subst e; rw [HX.out.1, HX.out.2]
            · exact HS.out j (by omega)
          go_wp2_with fail
          go_roundg (N - (i + 1))
          case measure => go_light; omega
          case rel => go_light; exact ⟨i + 1, by simp, by omega, rfl, HS2, HQ4⟩
        · have hxy' : (x == y) = false := by simpa using hxy
          have HF : Hid (B = false) := by
            show B = false
            rw [← HB.out, decide_eq_false_iff_not]
            intro e
            rw [e] at HX
            exact hxy (HX.out.1.symm.trans HX.out.2)
          clear HX
          go_wp2_with fail
          go_ret
          exact ⟨by rw [HF.out]; rfl, HQ4.out⟩
      · have hge : ¬ (i : Int) < (N : Int) := by omega
        obtain rfl : i = N := by omega
        have HF : Hid (B = true) := by
          show B = true
          rw [← HB.out, decide_eq_true_iff]
          apply List.ext_getElem?
          intro j
          by_cases hj : j < i
          · have := HS.out j hj
            rw [List.getD_eq_getElem?_getD, List.getD_eq_getElem?_getD, List.getElem?_eq_getElem (by have := HV.out.2; omega), List.getElem?_eq_getElem (by have := HU.out.2; omega)] at this
            rw [List.getElem?_eq_getElem (by have := HV.out.2; omega), List.getElem?_eq_getElem (by have := HU.out.2; omega)]
            exact congrArg some this
          · rw [List.getElem?_eq_none (by have := HV.out.2; omega), List.getElem?_eq_none (by have := HU.out.2; omega)]
        go_wp2_with fail
        go_ret
        exact ⟨by rw [HF.out]; rfl, HQ.out⟩
  · rw [decide_eq_false (fun e => hl (by rw [e]))]
    have hl' : ((L.length : Int) == (M.length : Int)) = false := by simp; omega
    have hl'' : ¬ (L.length : Int) = (M.length : Int) := by omega
    clear hv hu hl
    generalize L.length = a at *
    generalize M.length = b at *
    go_enter Tryz.func49, Tryz.ntmps49
    go_wp2_with fail
    go_ret
    exact ⟨rfl, Q.refl w⟩
end Go.Proofs.YtieojgblamkgoaaGreatDoor
