/- The chapter's examples: what the program tells of them. -/
import Derived.Test.YtieojgblamkgoaaGreatDoorGa5474f3a
import Derived.Test.YtieojgblamkgoaaGreatDoorG232b9010
import Derived.Test.YtieojgblamkgoaaGreatDoorG7f235043
namespace Go.Proofs.YtieojgblamkgoaaGreatDoor
open Go.RowKit
set_option linter.unusedVariables false
set_option linter.unusedSimpArgs false
set_option maxRecDepth 100000

def kl1 : List Nat := [1065353216, 864026624, 864026624]
def kl2 : List Nat := [2130706432, 2130706432, 4278190080]
def kl3 : List Nat := [2147483648, 2147483648]
def kl4 : List Nat := [1065353216, 864026624]
def kl5 : List Nat := [1065353216, 1077936128]
def kl6 : List Nat := [1065353216, 1065353216, 1]
theorem k1 : leftV kl1 = 1065353216 := by decide +kernel
theorem k2 : pairsV kl1 = 1065353217 := by decide +kernel
theorem k3 : sumV kl1 1 = 1065353217 := by decide +kernel
theorem k4 : kahV kl1 = 1065353217 := by decide +kernel
theorem k5 : left64V kl1 = 4607182419336888320 := by decide +kernel
theorem k6 : leftV kl2 = 2139095040 := by decide +kernel
theorem k7 : sumV kl2 1 = 2130706432 := by decide +kernel
theorem k8 : sumV kl3 1 = 2147483648 := by decide +kernel
theorem k9a : floatBits .mul .f64 (floatOfInt .f64 1) (wideW 1065353216) = some 4607182418800017408 := by decide +kernel
theorem k9b : floatBits .mul .f64 (floatOfInt .f64 (-1)) (wideW 864026624) = some 13722468064597901312 := by decide +kernel
theorem k9 : dotF [4607182418800017408, 13722468064597901312] = 4607182418263146496 := by decide +kernel
theorem k10a : floatBits .mul .f64 (floatOfInt .f64 32768) (wideW 1065353216) = some 4674736413210574848 := by decide +kernel
theorem k10b : floatBits .mul .f64 (floatOfInt .f64 32768) (wideW 1077936128) = some 4681491812651630592 := by decide +kernel
theorem k10 : overW (dotF [4674736413210574848, 4681491812651630592]) = 1073741824 := by decide +kernel
theorem k11 : overV [] 0 = (0, 33) := by decide +kernel
theorem k12 : sumV kl6 1 = 1073741824 := by decide +kernel
theorem k13 : overV kl6 3 = (1059760811, 0) := by decide +kernel
theorem k14 : sumV (kl6 ++ kl6) 1 = 1082130432 := by decide +kernel
theorem small_of {l : List Nat} (h : l.all (· < 4294967296) = true) : (∀ s ∈ l, s < 4294967296) ∧ ∀ i, l.getD i 0 < 4294967296 := by
  have h1 : ∀ s ∈ l, s < 4294967296 := fun s hs => by simpa using List.all_eq_true.1 h s hs
  refine ⟨h1, fun i => ?_⟩
  rcases Nat.lt_or_ge i l.length with g | g
  · rw [List.getD_eq_getElem?_getD, List.getElem?_eq_getElem g]
    exact h1 _ (List.getElem_mem g)
  · rw [List.getD_eq_getElem?_getD, List.getElem?_eq_none g]
    decide
/-- A list just made. -/
structure Lst (w : World) (v : Value) (l : List Nat) : Prop where
  u : USl w v l
  b : ∃ g c, v = .slice (some ⟨g, 0, none⟩) l.length c ∧ g < w.heap.size
theorem Lst.next {w w' : World} {v : Value} {l : List Nat} (h : Lst w v l) (q : Q w w') : Lst w' v l := by
  obtain ⟨u, g, c, e, hg⟩ := h
  exact ⟨u.next q, g, c, e, Nat.lt_of_lt_of_le hg q.1.size⟩
theorem Lst.far {w w' : World} {v : Value} {l : List Nat} {B : Nat} (h : Lst w v l) (f : Fb B w w') (hB : ∀ g c, v = .slice (some ⟨g, 0, none⟩) l.length c → g ≠ B) : Lst w' v l := by
  obtain ⟨u, g, c, e, hg⟩ := h
  refine ⟨?_, g, c, e, Nat.lt_of_lt_of_le hg f.size⟩
  rcases u with ⟨g2, o, cap, e2, hc, hI⟩ | hl
  · refine Or.inl ⟨g2, o, cap, e2, hc, fun i hi => f.cell (hI i hi) ?_⟩
    have : g2 = g := by rw [e] at e2; injection e2 with e3; injection e3 with e3; injection e3 with e3; exact e3.symm
    rw [this]
    exact hB g c e
  · exact Or.inr hl
theorem lst3 (w : World) (a b c : Nat) (t : TypeId) : Lst (w.alloc (.cells #[.int .u32 (a : Int), .int .u32 (b : Int), .int .u32 (c : Int)] t)) (.slice (some ⟨w.heap.size, 0, none⟩) 3 3) [a, b, c] := by
  refine ⟨Or.inl ⟨w.heap.size, 0, 3, rfl, Nat.le_refl 3, fun i hi => ?_⟩, w.heap.size, 3, rfl, by simp [go_sem]⟩
  rcases i with _ | _ | _ | i
  · simp [go_sem]
  · simp [go_sem]
  · simp [go_sem]
  · simp at hi; omega
theorem lst2 (w : World) (a b : Nat) (t : TypeId) : Lst (w.alloc (.cells #[.int .u32 (a : Int), .int .u32 (b : Int)] t)) (.slice (some ⟨w.heap.size, 0, none⟩) 2 2) [a, b] := by
  refine ⟨Or.inl ⟨w.heap.size, 0, 2, rfl, Nat.le_refl 2, fun i hi => ?_⟩, w.heap.size, 2, rfl, by simp [go_sem]⟩
  rcases i with _ | _ | i
  · simp [go_sem]
  · simp [go_sem]
  · simp at hi; omega
theorem ist2 (w : World) (a b : Int) (t : TypeId) : ISl (w.alloc (.cells #[.int .i64 a, .int .i64 b] t)) (.slice (some ⟨w.heap.size, 0, none⟩) 2 2) [a, b] := by
  refine Or.inl ⟨w.heap.size, 0, 2, rfl, fun i hi => ?_⟩
  rcases i with _ | _ | i
  · simp [go_sem]
  · simp [go_sem]
  · simp at hi; omega
theorem ist1 (w : World) (a : Int) (t : TypeId) : ISl (w.alloc (.cells #[.int .i64 a] t)) (.slice (some ⟨w.heap.size, 0, none⟩) 1 1) [a] := by
  refine Or.inl ⟨w.heap.size, 0, 1, rfl, fun i hi => ?_⟩
  rcases i with _ | i
  · simp [go_sem]
  · simp at hi
theorem kn_mean0 {B : Nat} {w : World} (h : AccOf w B [] 0 (fun _ => 0)) (hT : Tab w) : Calls Tryz.prog 65 #[.pointer (some ⟨B, 0, none⟩)] w fun e w' => e = .returned (.tuple #[.int .u32 0, .int .i64 33]) ∧ Q w w' := by
  have := amean_any [] B 0 _ w h (sumZ_fits (by simp) (by decide)) hT
  rw [show ((0 : Nat) : Int) = 0 from rfl, k11] at this
  exact this
theorem kn_mean {B : Nat} {w : World} {N : Nat → Nat} (h : AccOf w B kl6 3 N) (hT : Tab w) : Calls Tryz.prog 65 #[.pointer (some ⟨B, 0, none⟩)] w fun e w' => e = .returned (.tuple #[.int .u32 1059760811, .int .i64 0]) ∧ Q w w' := by
  have := amean_any kl6 B 3 _ w h (sumZ_fits (small_of (by decide)).1 (by decide)) hT
  rw [show ((3 : Nat) : Int) = 3 from rfl, k13] at this
  exact this
theorem kn_sum {B c : Nat} {w : World} {N : Nat → Nat} (h : AccOf w B kl6 c N) (hT : Tab w) : Calls Tryz.prog 37 #[.pointer (some ⟨B, 0, none⟩)] w fun e w' => e = .returned (.int .u32 1073741824) ∧ Q w w' := by
  have := asum_any kl6 B c _ w h (sumZ_fits (small_of (by decide)).1 (by decide)) hT
  rw [k12] at this
  exact this
theorem kn_sum2 {B c : Nat} {w : World} {N : Nat → Nat} (h : AccOf w B (kl6 ++ kl6) c N) (hT : Tab w) : Calls Tryz.prog 37 #[.pointer (some ⟨B, 0, none⟩)] w fun e w' => e = .returned (.int .u32 1082130432) ∧ Q w w' := by
  have := asum_any (kl6 ++ kl6) B c _ w h (sumZ_fits (small_of (by decide)).1 (by decide)) hT
  rw [k14] at this
  exact this
end Go.Proofs.YtieojgblamkgoaaGreatDoor
/- stat: the chapter's example. -/
namespace Go.Proofs.YtieojgblamkgoaaGreatDoor
open Go.RowKit
set_option linter.unusedVariables false
set_option linter.unusedSimpArgs false
set_option maxRecDepth 100000

def kf4 : List Nat := [1065353216, 1073741824, 1082130432, 2147483648]
theorem kf4_crop : crL 2 0 0 2 2 kf4 = kf4 := by decide +kernel
theorem kf4_lt : ∀ i, kf4.getD i 0 < 4294967296 := (small_of (l := kf4) (by decide)).2
theorem kf4_mean : smeanV kf4 = (1071644672, 0) := by decide +kernel
theorem kf4_sum : sumV kf4 1 = 1088421888 := by decide +kernel
theorem kf4_ends : endsV kf4 = (2147483648, 1082130432, 0) := by decide +kernel
theorem kf4_rank : rkV kf4 1 = 1065353216 := by
  have h : isRk kf4 1 0 := by unfold isRk; decide +kernel
  have := isRk_val (L := kf4) (small_of (l := kf4) (by decide)).1 (k := 1) (i := 0) (by decide) (by decide) h
  rw [← this]; rfl
theorem kf4_share : sshV 0 kf4 1 2 = (1065353216, 0) := by
  unfold sshV srkV
  rw [if_neg (by decide), if_neg (by decide), if_neg (by decide), if_neg (by decide)]
  show (rkV kf4 1, _) = _
  rw [kf4_rank]
set_option maxHeartbeats 1000000 in
theorem four16_any (w : World) : Calls Tryz.prog 36 #[] w fun e w' => ∃ g, e = .returned (.agg #[.int .i64 2, .int .i64 2, .slice (some ⟨g, 0, none⟩) 4 4]) ∧ UIs w' g 0 kf4 ∧ Q w w' := by
  obtain ⟨w2, hw2⟩ : ∃ w2, (w.alloc (.cells #[.int .i64 0, .int .i64 0, .slice none 0 0] 26)).alloc (.cells #[.int .u32 1065353216, .int .u32 1073741824, .int .u32 1082130432, .int .u32 2147483648] 43) = w2 := ⟨_, rfl⟩
  have q2 : Hid (Q w w2) := by rw [← hw2]; exact ((Q.refl w).cells _ _).cells _ _
  have z0 : w2.cell? ⟨w.heap.size, 0, none⟩ = some (.int .i64 0) := by rw [← hw2]; simp [go_sem]
  have z1 : w2.cell? ⟨w.heap.size, 1, none⟩ = some (.int .i64 0) := by rw [← hw2]; simp [go_sem]
  have z2 : w2.cell? ⟨w.heap.size, 2, none⟩ = some (.slice none 0 0) := by rw [← hw2]; simp [go_sem]
  have zf : ∀ j, w2.frozen? ⟨w.heap.size, j, none⟩ = false := fun j => by rw [← hw2]; simp [go_sem]
  have HI : Hid (UIs w2 (w.heap.size + 1) 0 kf4) := by
    intro i hi
    rcases i with _ | _ | _ | _ | i
    · rw [← hw2]; simp [go_sem, kf4]
    · rw [← hw2]; simp [go_sem, kf4]
    · rw [← hw2]; simp [go_sem, kf4]
    · rw [← hw2]; simp [go_sem, kf4]
    · simp [kf4] at hi; omega
  go_enter Tryz.func36, Tryz.ntmps36
  go_wp2_with fail
  refine bodyPost_ret (v := .agg #[.int .i64 2, .int .i64 2, .slice (some ⟨w.heap.size + 1, 0, none⟩) 4 4]) (by simp [results, Tryz.results36, go_sem, z0, z1, z2]) rfl ⟨_, rfl, ?_, ?_⟩
  · intro i hi
    rw [World.cell?_setCell_other _ _ _ _ (fun e => by injection e with e; omega), World.cell?_setCell_other _ _ _ _ (fun e => by injection e with e; omega), World.cell?_setCell_other _ _ _ _ (fun e => by injection e with e; omega)]
    exact HI.out i hi
  · exact ((q2.out.set (Nat.le_refl _) _).set (Nat.le_refl _) _).set (Nat.le_refl _) _
set_option maxHeartbeats 4000000 in
theorem known16_any (w : World) (hT : Tab w) : Calls Tryz.prog 9 #[] w fun e w' => e = .returned (.bool true) ∧ Qb w w' := by
  have HT : Hid (Tab w) := hT
  clear hT
  go_enter Tryz.func9, Tryz.ntmps9
  go_wp2_with fail
  refine Calls.mono (snew_good 4 (by decide) (by decide) _) ?_
  rintro e w1 ⟨P, A, H, kc, rfl, lP, lA, lH, hS, q1⟩
  have HS1 : Hid (StAt w1 P A H 4 kc []) := hS
  have HQ1 : Hid (Q w w1) := q1
  clear hS q1
  go_wp2_with fail
  refine Calls.mono (four16_any _) ?_
  rintro e w2 ⟨g, rfl, hI, q2⟩
  have HS2 : Hid (StAt w2 P A H 4 kc []) := HS1.out.next q2
  have HQ2 : Hid (Q w w2) := HQ1.out.trans q2
  have hPl : Pl w2 g 0 4 4 2 2 kf4 := ⟨⟨by decide, by decide, by decide, by decide, by decide⟩, rfl, rfl, Nat.le_refl _, hI⟩
  have KA := sadd_good P A H 4 kc [] w2 HS2.out hPl (x0 := 0) (y0 := 0) (c := 2) (d := 2) ⟨by decide, by decide, by decide, by decide⟩ 2 2 rfl rfl (by rw [kf4_crop]; exact kf4_lt) (by decide)
  rw [kf4_crop, List.nil_append] at KA
  have HKA : Hid _ := KA
  clear HS1 HQ1 q2 hI hPl KA
  go_wp2_with fail
  refine Calls.mono HKA.out ?_
  rintro e w3 ⟨rfl, hS3, f3⟩
  have HQ3 : Hid (Q w w3) := f3.q HQ2.out (fun b hb => ⟨by omega, by omega, by omega⟩)
  have HS3 : Hid (StAt w3 P A H 4 kc kf4) := hS3
  have HT3 : Hid (Tab w3) := HQ3.out.tab HT.out
  clear hS3 f3 HQ2 HS2 HKA
  go_wp2_with fail
  have KM := smean_any P A H 4 kc kf4 w3 HS3.out (small_of (l := kf4) (by decide)).1 (by decide) HT3.out
  rw [kf4_mean] at KM
  refine Calls.mono KM ?_
  rintro e w4 ⟨rfl, q4⟩
  have HQ4 : Hid (Q w w4) := HQ3.out.trans q4
  have HS4 : Hid (StAt w4 P A H 4 kc kf4) := HS3.out.next q4
  clear KM q4 HQ3 HS3 HT3
  go_wp2_with fail
  have KE := sends_any P A H 4 kc kf4 w4 HS4.out (small_of (l := kf4) (by decide)).1
  rw [kf4_ends] at KE
  refine Calls.mono KE ?_
  rintro e w5 ⟨rfl, q5⟩
  have HQ5 : Hid (Q w w5) := HQ4.out.trans q5
  have HS5 : Hid (StAt w5 P A H 4 kc kf4) := HS4.out.next q5
  clear KE q5 HQ4 HS4
  go_wp2_with fail
  refine Calls.mono (four16_any _) ?_
  rintro e w6 ⟨g6, rfl, hI6, q6⟩
  have HQ6 : Hid (Q w w6) := HQ5.out.trans q6
  have HS6 : Hid (StAt w6 P A H 4 kc kf4) := HS5.out.next q6
  have KR := sshare_any 2 2 (some ⟨g6, 0, none⟩) 4 4 kf4 1 2 w6 (hI6.usl (cap := 4) (by decide)) rfl kf4_lt (by decide)
  rw [show chk 2 2 4 = 0 by decide, kf4_share] at KR
  have HKR : Hid _ := KR
  clear q6 hI6 HQ5 HS5 KR
  go_wp2_with fail
  refine Calls.mono HKR.out ?_
  rintro e w7 ⟨rfl, q7⟩
  have HQ7 : Hid (Qb w w7) := HQ6.out.qb.trans q7
  have HS7 : Hid (StAt w7 P A H 4 kc kf4) := HS6.out.nextB q7
  clear q7 HQ6 HS6 HKR
  have p0 := HS7.out.p0
  have HT7 : Hid (Tab w7) := fun j hj => HQ7.out.cell (HT.out j hj)
  obtain ⟨N, hA⟩ := HS7.out.acc
  have KC := acount_any A (4 : Int) w7 hA.c
  have KS := asum_any kf4 A 4 N w7 hA (sumZ_fits (small_of (l := kf4) (by decide)).1 (by decide)) HT7.out
  rw [kf4_sum] at KS
  have HKS : Hid _ := KS
  clear hA KS HT7 HT
  go_wp2_with fail
  refine Calls.mono KC ?_
  rintro e w8 ⟨rfl, hw8⟩
  obtain rfl := hw8.symm
  clear hw8
  go_wp2_with fail
  refine Calls.mono HKS.out ?_
  rintro e w9 ⟨rfl, q9⟩
  have HQ9 : Hid (Qb w w9) := HQ7.out.trans q9.qb
  clear q9 HKS KC
  go_wp2_with fail
  go_ret
  exact ⟨rfl, HQ9.out⟩
end Go.Proofs.YtieojgblamkgoaaGreatDoor
