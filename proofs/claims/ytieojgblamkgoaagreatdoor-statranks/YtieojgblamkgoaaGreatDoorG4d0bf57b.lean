/- The chapter's examples: what the program tells of them. -/
import Derived.Test.YtieojgblamkgoaaGreatDoorG3431a178
import Derived.Test.YtieojgblamkgoaaGreatDoorGcf3d1907
import Derived.Test.YtieojgblamkgoaaGreatDoorGc4856912
import Derived.Test.YtieojgblamkgoaaGreatDoorGa93996dd
import Derived.Test.YtieojgblamkgoaaGreatDoorG4085d0f8
namespace Go.Proofs.YtieojgblamkgoaaGreatDoor
open Go.RowKit
set_option linter.unusedVariables false
set_option linter.unusedSimpArgs false
set_option maxRecDepth 100000

def kl1 : List Nat := [1065353216, 864026624, 864026624]
def kl2 : List Nat := [2130706432, 2130706432, 4278190080]
def kl3 : List Nat := [2147483648, 2147483648]
def kl4 : List Nat := [1065353216, 864026624]
def kl5 : List Nat := [1065353216, 1077936128]
def kl6 : List Nat := [1065353216, 1065353216, 1]
theorem k1 : leftV kl1 = 1065353216 := by decide +kernel
theorem k2 : pairsV kl1 = 1065353217 := by decide +kernel
theorem k3 : sumV kl1 1 = 1065353217 := by decide +kernel
theorem k4 : kahV kl1 = 1065353217 := by decide +kernel
theorem k5 : left64V kl1 = 4607182419336888320 := by decide +kernel
theorem k6 : leftV kl2 = 2139095040 := by decide +kernel
theorem k7 : sumV kl2 1 = 2130706432 := by decide +kernel
theorem k8 : sumV kl3 1 = 2147483648 := by decide +kernel
theorem k9a : floatBits .mul .f64 (floatOfInt .f64 1) (wideW 1065353216) = some 4607182418800017408 := by decide +kernel
theorem k9b : floatBits .mul .f64 (floatOfInt .f64 (-1)) (wideW 864026624) = some 13722468064597901312 := by decide +kernel
theorem k9 : dotF [4607182418800017408, 13722468064597901312] = 4607182418263146496 := by decide +kernel
theorem k10a : floatBits .mul .f64 (floatOfInt .f64 32768) (wideW 1065353216) = some 4674736413210574848 := by decide +kernel
theorem k10b : floatBits .mul .f64 (floatOfInt .f64 32768) (wideW 1077936128) = some 4681491812651630592 := by decide +kernel
theorem k10 : overW (dotF [4674736413210574848, 4681491812651630592]) = 1073741824 := by decide +kernel
theorem k11 : overV [] 0 = (0, 33) := by decide +kernel
theorem k12 : sumV kl6 1 = 1073741824 := by decide +kernel
theorem k13 : overV kl6 3 = (1059760811, 0) := by decide +kernel
theorem k14 : sumV (kl6 ++ kl6) 1 = 1082130432 := by decide +kernel
theorem small_of {l : List Nat} (h : l.all (· < 4294967296) = true) : (∀ s ∈ l, s < 4294967296) ∧ ∀ i, l.getD i 0 < 4294967296 := by
  have h1 : ∀ s ∈ l, s < 4294967296 := fun s hs => by simpa using List.all_eq_true.1 h s hs
  refine ⟨h1, fun i => ?_⟩
  rcases Nat.lt_or_ge i l.length with g | g
  · rw [List.getD_eq_getElem?_getD, List.getElem?_eq_getElem g]
    exact h1 _ (List.getElem_mem g)
  · rw [List.getD_eq_getElem?_getD, List.getElem?_eq_none g]
    decide
/-- A list just made. -/
structure Lst (w : World) (v : Value) (l : List Nat) : Prop where
  u : USl w v l
  b : ∃ g c, v = .slice (some ⟨g, 0, none⟩) l.length c ∧ g < w.heap.size
theorem Lst.next {w w' : World} {v : Value} {l : List Nat} (h : Lst w v l) (q : Q w w') : Lst w' v l := by
  obtain ⟨u, g, c, e, hg⟩ := h
  exact ⟨u.next q, g, c, e, Nat.lt_of_lt_of_le hg q.1.size⟩
theorem Lst.far {w w' : World} {v : Value} {l : List Nat} {B : Nat} (h : Lst w v l) (f : Fb B w w') (hB : ∀ g c, v = .slice (some ⟨g, 0, none⟩) l.length c → g ≠ B) : Lst w' v l := by
  obtain ⟨u, g, c, e, hg⟩ := h
  refine ⟨?_, g, c, e, Nat.lt_of_lt_of_le hg f.size⟩
  rcases u with ⟨g2, o, cap, e2, hc, hI⟩ | hl
  · refine Or.inl ⟨g2, o, cap, e2, hc, fun i hi => f.cell (hI i hi) ?_⟩
    have : g2 = g := by rw [e] at e2; injection e2 with e3; injection e3 with e3; injection e3 with e3; exact e3.symm
    rw [this]
    exact hB g c e
  · exact Or.inr hl
theorem lst3 (w : World) (a b c : Nat) (t : TypeId) : Lst (w.alloc (.cells #[.int .u32 (a : Int), .int .u32 (b : Int), .int .u32 (c : Int)] t)) (.slice (some ⟨w.heap.size, 0, none⟩) 3 3) [a, b, c] := by
  refine ⟨Or.inl ⟨w.heap.size, 0, 3, rfl, Nat.le_refl 3, fun i hi => ?_⟩, w.heap.size, 3, rfl, by simp [go_sem]⟩
  rcases i with _ | _ | _ | i
  · simp [go_sem]
  · simp [go_sem]
  · simp [go_sem]
  · simp at hi; omega
theorem lst2 (w : World) (a b : Nat) (t : TypeId) : Lst (w.alloc (.cells #[.int .u32 (a : Int), .int .u32 (b : Int)] t)) (.slice (some ⟨w.heap.size, 0, none⟩) 2 2) [a, b] := by
  refine ⟨Or.inl ⟨w.heap.size, 0, 2, rfl, Nat.le_refl 2, fun i hi => ?_⟩, w.heap.size, 2, rfl, by simp [go_sem]⟩
  rcases i with _ | _ | i
  · simp [go_sem]
  · simp [go_sem]
  · simp at hi; omega
theorem ist2 (w : World) (a b : Int) (t : TypeId) : ISl (w.alloc (.cells #[.int .i64 a, .int .i64 b] t)) (.slice (some ⟨w.heap.size, 0, none⟩) 2 2) [a, b] := by
  refine Or.inl ⟨w.heap.size, 0, 2, rfl, fun i hi => ?_⟩
  rcases i with _ | _ | i
  · simp [go_sem]
  · simp [go_sem]
  · simp at hi; omega
theorem ist1 (w : World) (a : Int) (t : TypeId) : ISl (w.alloc (.cells #[.int .i64 a] t)) (.slice (some ⟨w.heap.size, 0, none⟩) 1 1) [a] := by
  refine Or.inl ⟨w.heap.size, 0, 1, rfl, fun i hi => ?_⟩
  rcases i with _ | i
  · simp [go_sem]
  · simp at hi
theorem kn_mean0 {B : Nat} {w : World} (h : AccOf w B [] 0 (fun _ => 0)) (hT : Tab w) : Calls Tryz.prog 65 #[.pointer (some ⟨B, 0, none⟩)] w fun e w' => e = .returned (.tuple #[.int .u32 0, .int .i64 33]) ∧ Q w w' := by
  have := amean_any [] B 0 _ w h (sumZ_fits (by simp) (by decide)) hT
  rw [show ((0 : Nat) : Int) = 0 from rfl, k11] at this
  exact this
theorem kn_mean {B : Nat} {w : World} {N : Nat → Nat} (h : AccOf w B kl6 3 N) (hT : Tab w) : Calls Tryz.prog 65 #[.pointer (some ⟨B, 0, none⟩)] w fun e w' => e = .returned (.tuple #[.int .u32 1059760811, .int .i64 0]) ∧ Q w w' := by
  have := amean_any kl6 B 3 _ w h (sumZ_fits (small_of (by decide)).1 (by decide)) hT
  rw [show ((3 : Nat) : Int) = 3 from rfl, k13] at this
  exact this
theorem kn_sum {B c : Nat} {w : World} {N : Nat → Nat} (h : AccOf w B kl6 c N) (hT : Tab w) : Calls Tryz.prog 37 #[.pointer (some ⟨B, 0, none⟩)] w fun e w' => e = .returned (.int .u32 1073741824) ∧ Q w w' := by
  have := asum_any kl6 B c _ w h (sumZ_fits (small_of (by decide)).1 (by decide)) hT
  rw [k12] at this
  exact this
theorem kn_sum2 {B c : Nat} {w : World} {N : Nat → Nat} (h : AccOf w B (kl6 ++ kl6) c N) (hT : Tab w) : Calls Tryz.prog 37 #[.pointer (some ⟨B, 0, none⟩)] w fun e w' => e = .returned (.int .u32 1082130432) ∧ Q w w' := by
  have := asum_any (kl6 ++ kl6) B c _ w h (sumZ_fits (small_of (by decide)).1 (by decide)) hT
  rw [k14] at this
  exact this
end Go.Proofs.YtieojgblamkgoaaGreatDoor
/- stat: the chapter's example. -/
namespace Go.Proofs.YtieojgblamkgoaaGreatDoor
open Go.RowKit
set_option linter.unusedVariables false
set_option linter.unusedSimpArgs false
set_option maxRecDepth 100000

def kf4 : List Nat := [1065353216, 1073741824, 1082130432, 2147483648]
theorem kf4_crop : crL 2 0 0 2 2 kf4 = kf4 := by decide +kernel
theorem kf4_lt : ∀ i, kf4.getD i 0 < 4294967296 := (small_of (l := kf4) (by decide)).2
theorem kf4_mean : smeanV kf4 = (1071644672, 0) := by decide +kernel
theorem kf4_sum : sumV kf4 1 = 1088421888 := by decide +kernel
theorem kf4_ends : endsV kf4 = (2147483648, 1082130432, 0) := by decide +kernel
theorem kf4_rank : rkV kf4 1 = 1065353216 := by
  have h : isRk kf4 1 0 := by unfold isRk; decide +kernel
  have := isRk_val (L := kf4) (small_of (l := kf4) (by decide)).1 (k := 1) (i := 0) (by decide) (by decide) h
  rw [← this]; rfl
theorem kf4_share : sshV 0 kf4 1 2 = (1065353216, 0) := by
  unfold sshV srkV
  rw [if_neg (by decide), if_neg (by decide), if_neg (by decide), if_neg (by decide)]
  show (rkV kf4 1, _) = _
  rw [kf4_rank]
set_option maxHeartbeats 1000000 in
theorem four16_any (w : World) : Calls Tryz.prog 36 #[] w fun e w' => ∃ g, e = .returned (.agg #[.int .i64 2, .int .i64 2, .slice (some ⟨g, 0, none⟩) 4 4]) ∧ UIs w' g 0 kf4 ∧ Q w w' := by
  obtain ⟨w2, hw2⟩ : ∃ w2, (w.alloc (.cells #[.int .i64 0, .int .i64 0, .slice none 0 0] 26)).alloc (.cells #[.int .u32 1065353216, .int .u32 1073741824, .int .u32 1082130432, .int .u32 2147483648] 43) = w2 := ⟨_, rfl⟩
  have q2 : Hid (Q w w2) := by rw [← hw2]; exact ((Q.refl w).cells _ _).cells _ _
  have z0 : w2.cell? ⟨w.heap.size, 0, none⟩ = some (.int .i64 0) := by rw [← hw2]; simp [go_sem]
  have z1 : w2.cell? ⟨w.heap.size, 1, none⟩ = some (.int .i64 0) := by rw [← hw2]; simp [go_sem]
  have z2 : w2.cell? ⟨w.heap.size, 2, none⟩ = some (.slice none 0 0) := by rw [← hw2]; simp [go_sem]
  have zf : ∀ j, w2.frozen? ⟨w.heap.size, j, none⟩ = false := fun j => by rw [← hw2]; simp [go_sem]
  have HI : Hid (UIs w2 (w.heap.size + 1) 0 kf4) := by
    intro i hi
    rcases i with _ | _ | _ | _ | i
    · rw [← hw2]; simp [go_sem, kf4]
    · rw [← hw2]; simp [go_sem, kf4]
    · rw [← hw2]; simp [go_sem, kf4]
    · rw [← hw2]; simp [go_sem, kf4]
    · simp [kf4] at hi; omega
  go_enter Tryz.func36, Tryz.ntmps36
  go_wp2_with fail
  refine bodyPost_ret (v := .agg #[.int .i64 2, .int .i64 2, .slice (some ⟨w.heap.size + 1, 0, none⟩) 4 4]) (by simp [results, Tryz.results36, go_sem, z0, z1, z2]) rfl ⟨_, rfl, ?_, ?_⟩
  · intro i hi
    rw [World.cell?_setCell_other _ _ _ _ (fun e => by injection e with e; omega), World.cell?_setCell_other _ _ _ _ (fun e => by injection e with e; omega), World.cell?_setCell_other _ _ _ _ (fun e => by injection e with e; omega)]
    exact HI.out i hi
  · exact ((q2.out.set (Nat.le_refl _) _).set (Nat.le_refl _) _).set (Nat.le_refl _) _
set_option maxHeartbeats 4000000 in
theorem known16_any (w : World) (hT : Tab w) : Calls Tryz.prog 9 #[] w fun e w' => e = .returned (.bool true) ∧ Qb w w' := by
  have HT : Hid (Tab w) := hT
  clear hT
  go_enter Tryz.func9, Tryz.ntmps9
  go_wp2_with fail
  refine Calls.mono (snew_good 4 (by decide) (by decide) _) ?_
  rintro e w1 ⟨P, A, H, kc, rfl, lP, lA, lH, hS, q1⟩
  have HS1 : Hid (StAt w1 P A H 4 kc []) := hS
  have HQ1 : Hid (Q w w1) := q1
  clear hS q1
  go_wp2_with fail
  refine Calls.mono (four16_any _) ?_
  rintro e w2 ⟨g, rfl, hI, q2⟩
  have HS2 : Hid (StAt w2 P A H 4 kc []) := HS1.out.next q2
  have HQ2 : Hid (Q w w2) := HQ1.out.trans q2
  have hPl : Pl w2 g 0 4 4 2 2 kf4 := ⟨⟨by decide, by decide, by decide, by decide, by decide⟩, rfl, rfl, Nat.le_refl _, hI⟩
  have KA := sadd_good P A H 4 kc [] w2 HS2.out hPl (x0 := 0) (y0 := 0) (c := 2) (d := 2) ⟨by decide, by decide, by decide, by decide⟩ 2 2 rfl rfl (by rw [kf4_crop]; exact kf4_lt) (by decide)
  rw [kf4_crop, List.nil_append] at KA
  have HKA : Hid _ := KA
  clear HS1 HQ1 q2 hI hPl KA
  go_wp2_with fail
  refine Calls.mono HKA.out ?_
  rintro e w3 ⟨rfl, hS3, f3⟩
  have HQ3 : Hid (Q w w3) := f3.q HQ2.out (fun b hb => ⟨by omega, by omega, by omega⟩)
  have HS3 : Hid (StAt w3 P A H 4 kc kf4) := hS3
  have HT3 : Hid (Tab w3) := HQ3.out.tab HT.out
  clear hS3 f3 HQ2 HS2 HKA
  go_wp2_with fail
  have KM := smean_any P A H 4 kc kf4 w3 HS3.out (small_of (l := kf4) (by decide)).1 (by decide) HT3.out
  rw [kf4_mean] at KM
  refine Calls.mono KM ?_
  rintro e w4 ⟨rfl, q4⟩
  have HQ4 : Hid (Q w w4) := HQ3.out.trans q4
  have HS4 : Hid (StAt w4 P A H 4 kc kf4) := HS3.out.next q4
  clear KM q4 HQ3 HS3 HT3
  go_wp2_with fail
  have KE := sends_any P A H 4 kc kf4 w4 HS4.out (small_of (l := kf4) (by decide)).1
  rw [kf4_ends] at KE
  refine Calls.mono KE ?_
  rintro e w5 ⟨rfl, q5⟩
  have HQ5 : Hid (Q w w5) := HQ4.out.trans q5
  have HS5 : Hid (StAt w5 P A H 4 kc kf4) := HS4.out.next q5
  clear KE q5 HQ4 HS4
  go_wp2_with fail
  refine Calls.mono (four16_any _) ?_
  rintro e w6 ⟨g6, rfl, hI6, q6⟩
  have HQ6 : Hid (Q w w6) := HQ5.out.trans q6
  have HS6 : Hid (StAt w6 P A H 4 kc kf4) := HS5.out.next q6
  have KR := sshare_any 2 2 (some ⟨g6, 0, none⟩) 4 4 kf4 1 2 w6 (hI6.usl (cap := 4) (by decide)) rfl kf4_lt (by decide)
  rw [show chk 2 2 4 = 0 by decide, kf4_share] at KR
  have HKR : Hid _ := KR
  clear q6 hI6 HQ5 HS5 KR
  go_wp2_with fail
  refine Calls.mono HKR.out ?_
  rintro e w7 ⟨rfl, q7⟩
  have HQ7 : Hid (Qb w w7) := HQ6.out.qb.trans q7
  have HS7 : Hid (StAt w7 P A H 4 kc kf4) := HS6.out.nextB q7
  clear q7 HQ6 HS6 HKR
  have p0 := HS7.out.p0
  have HT7 : Hid (Tab w7) := fun j hj => HQ7.out.cell (HT.out j hj)
  obtain ⟨N, hA⟩ := HS7.out.acc
  have KC := acount_any A (4 : Int) w7 hA.c
  have KS := asum_any kf4 A 4 N w7 hA (sumZ_fits (small_of (l := kf4) (by decide)).1 (by decide)) HT7.out
  rw [kf4_sum] at KS
  have HKS : Hid _ := KS
  clear hA KS HT7 HT
  go_wp2_with fail
  refine Calls.mono KC ?_
  rintro e w8 ⟨rfl, hw8⟩
  obtain rfl := hw8.symm
  clear hw8
  go_wp2_with fail
  refine Calls.mono HKS.out ?_
  rintro e w9 ⟨rfl, q9⟩
  have HQ9 : Hid (Qb w w9) := HQ7.out.trans q9.qb
  clear q9 HKS KC
  go_wp2_with fail
  go_ret
  exact ⟨rfl, HQ9.out⟩
end Go.Proofs.YtieojgblamkgoaaGreatDoor
/- The document's Rank and Share (layer 16). -/
namespace Go.Proofs.YtieojgblamkgoaaGreatDoor
open Go.RowKit
set_option linter.unusedVariables false
set_option linter.unusedSimpArgs false

theorem and_31s (s : Int) (h0 : 0 ≤ s) (h1 : s ≤ 4294967295) : bits .and .u32 s 2147483647 = s % 2147483648 := by go_bits2
set_option maxHeartbeats 400000 in
theorem r4key_any (s : Nat) (hs : s < 4294967296) (w : World) : Calls Tryz.prog 59 #[.int .u32 s] w fun e w' => e = .returned (.int .i64 (keyN s : Nat)) ∧ w' = w := by
  by_cases h : s < 2147483648
  · have h' : (s : Int) < 2147483648 := by omega
    go_enter Tryz.func59, Tryz.ntmps59
    go_wp2
    go_ret
    exact ⟨ret_int (by unfold keyN; rw [if_pos h]; omega), rfl⟩
  · have h' : ¬ (s : Int) < 2147483648 := by omega
    go_enter Tryz.func59, Tryz.ntmps59
    go_wp2
    go_ret
    exact ⟨ret_int (by unfold keyN; rw [if_neg h]; omega), rfl⟩
set_option maxHeartbeats 400000 in
theorem r4nan_any (a : Nat) (ha : a < 4294967296) (w : World) : Calls Tryz.prog 61 #[.int .u32 a] w fun e w' => e = .returned (.bool (nanN a)) ∧ w' = w := by
  have e1 := and_31s a (by omega) (by omega)
  go_enter Tryz.func61, Tryz.ntmps61
  go_wp2
  go_ret
  refine ⟨ret_bool ?_, rfl⟩
  unfold nanN
  rw [decide_eq_decide]
  omega
set_option maxHeartbeats 8000000 in
set_option maxRecDepth 100000 in
theorem s16rank_any (v : Value) (S : List Nat) (k : Int) (w : World) (hv : USl w v S) (hb : ∀ i, S.getD i 0 < 4294967296) (hn : S.length ≤ 1000000) :
    Calls Tryz.prog 21 #[v, .int .i64 k] w fun e w' => e = .returned (.tuple #[.int .u32 ((srkV 0 S k).1 : Nat), .int .i64 (srkV 0 S k).2]) ∧ Q w w' := by
  obtain ⟨ad, cap, rfl⟩ := hv.form
  unfold srkV
  rw [if_neg (fun h => h rfl)]
  by_cases h0 : k < 0
  · rw [if_pos (Or.inl h0)]
    go_enter Tryz.func21, Tryz.ntmps21
    go_wp2_with fail
    go_ret2
    exact ⟨rfl, Q.refl _⟩
  · by_cases h1 : (S.length : Int) ≤ k
    · rw [if_pos (Or.inr h1)]
      go_enter Tryz.func21, Tryz.ntmps21
      go_wp2_with fail
      go_ret2
      exact ⟨rfl, Q.refl _⟩
    · obtain ⟨K, rfl⟩ : ∃ K : Nat, k = (K : Int) := ⟨k.toNat, by omega⟩
      rw [if_neg (by omega), Int.toNat_natCast]
      have hK : K < S.length := by omega
      obtain ⟨g, o, cap', hsl, hcap, hI⟩ := hv.some (by omega)
      injection hsl with hs1 hs2 hs3
      subst hs1 hs3
      clear hs2 hv
      have HI : Hid (UIs w g o S) := hI
      have HB : Hid (∀ i, S.getD i 0 < 4294967296) := hb
      have HM : Hid (∀ s ∈ S, s < 4294967296) := mem_of_getD2 hb
      have HE : Hid (S.take S.length = S) := List.take_of_length_le (Nat.le_refl _)
      have HK : Hid (∀ s : Nat, s < 4294967296 → ∀ x, Calls Tryz.prog 59 #[.int .u32 (s : Int)] x fun e w' => e = .returned (.int .i64 (keyN s : Nat)) ∧ w' = x) := fun s hs x => r4key_any s hs x
      clear hI hb h0
      go_enter Tryz.func21, Tryz.ntmps21
      go_wp2_with fail
      go_loopg [6, 7, 8, 9] (S.length) (fun gh s6 s7 s8 s9 wr => ∃ i : Nat, s6 = .int .i64 (i : Int) ∧ i ≤ S.length ∧ gh = S.length - i ∧ Hid ((∀ i', i' < i → ¬ isRk S K i') ∧ Q w wr))
      case atStart => exact ⟨0, rfl, by omega, rfl, fun i' h => absurd h (Nat.not_lt_zero _), Q.refl _⟩
      case round =>
        obtain ⟨i, rfl, hi, rfl, HR⟩ := hrel
        by_cases hlt : i < S.length
        · have hlt' : (i : Int) < (S.length : Int) := by omega
          go_wp2_with fail
          obtain ⟨y, hy⟩ : ∃ y, S.getD i 0 = y := ⟨_, rfl⟩
          have HY : Hid (S.getD i 0 = y) := hy
          have hy2 : y < 4294967296 := by rw [← hy]; exact HB.out i
          clear hy
          go_loopg [7, 8, 9] (S.length) (fun gh s7 s8 s9 wx => ∃ j : Nat, s7 = .int .i64 (lssN (S.take j) y : Nat) ∧ s8 = .int .i64 (samN (S.take j) y : Nat) ∧ s9 = .int .i64 (j : Int) ∧ j ≤ S.length ∧ gh = S.length - j ∧ Hid (Q w wx))
          case atStart => exact ⟨0, rfl, rfl, rfl, by omega, rfl, HR.out.2⟩
          case round =>
            obtain ⟨j, rfl, rfl, rfl, hj, rfl, HX⟩ := hrel
            by_cases hjl : j < S.length
            · have hjl' : (j : Int) < (S.length : Int) := by omega
              have cj := HX.out.cell (HI.out j hjl)
              have ci := HX.out.cell (HI.out i hlt)
              rw [HY.out] at ci
              have e1 := lss_snoc (x := y) hjl
              have e2 := sam_snoc (x := y) hjl
              have hl1 : lssN (S.take j) y ≤ S.length := Nat.le_trans List.countP_le_length (by rw [List.length_take]; omega)
              have hl2 : samN (S.take j) y ≤ S.length := Nat.le_trans List.countP_le_length (by rw [List.length_take]; omega)
              obtain ⟨x, hx⟩ : ∃ x, S.getD j 0 = x := ⟨_, rfl⟩
              have hx2 : x < 4294967296 := by rw [← hx]; exact HB.out j
              rw [hx] at cj e1 e2
              obtain ⟨p, hp⟩ : ∃ p, lssN (S.take j) y = p := ⟨_, rfl⟩
              obtain ⟨q, hq⟩ : ∃ q, samN (S.take j) y = q := ⟨_, rfl⟩
              rw [hp] at e1 hl1 ⊢
              rw [hq] at e2 hl2 ⊢
              have CK : Hid (∀ (z : Nat) (w : World), (z = x ∨ z = y) → Calls Tryz.prog 59 #[.int .u32 (z : Int)] w fun e w' => e = .returned (.int .i64 (keyN z : Nat)) ∧ w' = w) := fun z w hz => HK.out z (by rcases hz with rfl | rfl <;> assumption) w
              have q1 := qw_cell cj
              have q2 := qw_cell ci
              have n0 := qw_some wr
              clear hx hp hq
              by_cases h1 : keyN x < keyN y
              · have hxy : ((x : Int) == (y : Int)) = false := by rw [beq_eq_false_iff_ne]; intro e; exact absurd h1 (by rw [show x = y by omega]; omega)
                have h1' : ((keyN x : Nat) : Int) < ((keyN y : Nat) : Int) := by omega
                have HL1 : Hid (lssN (S.take (j + 1)) y = p + 1) := by show _ = _; rw [e1, if_pos h1]
                have HL2 : Hid (samN (S.take (j + 1)) y = q) := by show _ = _; rw [e2, if_neg (fun e => by subst e; omega), Nat.add_zero]
                clear e1 e2
                go_wp2_with fail
                refine wp_region_quiet_Q (by kernel_rfl) (by kernel_rfl) ?_
                repeat (first | go_big_quiet_step (first | (go_at_call 59; exact calls_qs (CK.out _ _ (by first | exact Or.inl rfl | exact Or.inr rfl)))) | quiet_step (first | (go_at_call 59; exact calls_qs (CK.out _ _ (by first | exact Or.inl rfl | exact Or.inr rfl)))))
                refine wpQuiet_nil ?_
                intro w4 hw'
                have hq4 := qw_out hw'
                have HQ4 : Hid (Q w w4) := HX.out.trans hq4
                have c1 := hq4.cell cj
                have c2 := hq4.cell ci
                clear q1 q2 n0 hw' hq4 cj ci
                have q1 := qw_cell c1
                have q2 := qw_cell c2
                have n0 := qw_some w4
                go_wp2_with fail
                refine wp_region_quiet_Q (by kernel_rfl) (by kernel_rfl) ?_
                repeat (first | go_big_quiet_step (fail) | quiet_step (fail))
                refine wpQuiet_nil ?_
                intro w5 hw'
                have HQ5 : Hid (Q w w5) := HQ4.out.trans (qw_out hw')
                clear q1 q2 n0 hw' c1 c2 HQ4
                go_wp2_with fail
                go_roundg (S.length - (j + 1))
                case measure => go_light; omega
                case rel => go_light; exact ⟨j + 1, by rw [HL1.out] <;> simp, by rw [HL2.out] <;> simp, by simp, by omega, rfl, HQ5⟩
              · have h1' : ¬ ((keyN x : Nat) : Int) < ((keyN y : Nat) : Int) := by omega
                by_cases h2 : x = y
                · have hxy : ((x : Int) == (y : Int)) = true := by rw [h2]; simp
                  have HL1 : Hid (lssN (S.take (j + 1)) y = p) := by show _ = _; rw [e1, if_neg h1, Nat.add_zero]
                  have HL2 : Hid (samN (S.take (j + 1)) y = q + 1) := by show _ = _; rw [e2, if_pos h2]
                  clear e1 e2 h2
                  go_wp2_with fail
                  refine wp_region_quiet_Q (by kernel_rfl) (by kernel_rfl) ?_
                  repeat (first | go_big_quiet_step (first | (go_at_call 59; exact calls_qs (CK.out _ _ (by first | exact Or.inl rfl | exact Or.inr rfl)))) | quiet_step (first | (go_at_call 59; exact calls_qs (CK.out _ _ (by first | exact Or.inl rfl | exact Or.inr rfl)))))
                  refine wpQuiet_nil ?_
                  intro w4 hw'
                  have hq4 := qw_out hw'
                  have HQ4 : Hid (Q w w4) := HX.out.trans hq4
                  have c1 := hq4.cell cj
                  have c2 := hq4.cell ci
                  clear q1 q2 n0 hw' hq4 cj ci
                  have q1 := qw_cell c1
                  have q2 := qw_cell c2
                  have n0 := qw_some w4
                  go_wp2_with fail
                  refine wp_region_quiet_Q (by kernel_rfl) (by kernel_rfl) ?_
                  repeat (first | go_big_quiet_step (fail) | quiet_step (fail))
                  refine wpQuiet_nil ?_
                  intro w5 hw'
                  have HQ5 : Hid (Q w w5) := HQ4.out.trans (qw_out hw')
                  clear q1 q2 n0 hw' c1 c2 HQ4
                  go_wp2_with fail
                  go_roundg (S.length - (j + 1))
                  case measure => go_light; omega
                  case rel => go_light; exact ⟨j + 1, by rw [HL1.out] <;> simp, by rw [HL2.out] <;> simp, by simp, by omega, rfl, HQ5⟩
                · have hxy : ((x : Int) == (y : Int)) = false := by rw [beq_eq_false_iff_ne]; omega
                  have HL1 : Hid (lssN (S.take (j + 1)) y = p) := by show _ = _; rw [e1, if_neg h1, Nat.add_zero]
                  have HL2 : Hid (samN (S.take (j + 1)) y = q) := by show _ = _; rw [e2, if_neg h2, Nat.add_zero]
                  clear e1 e2
                  go_wp2_with fail
                  refine wp_region_quiet_Q (by kernel_rfl) (by kernel_rfl) ?_
                  repeat (first | go_big_quiet_step (first | (go_at_call 59; exact calls_qs (CK.out _ _ (by first | exact Or.inl rfl | exact Or.inr rfl)))) | quiet_step (first | (go_at_call 59; exact calls_qs (CK.out _ _ (by first | exact Or.inl rfl | exact Or.inr rfl)))))
                  refine wpQuiet_nil ?_
                  intro w4 hw'
                  have hq4 := qw_out hw'
                  have HQ4 : Hid (Q w w4) := HX.out.trans hq4
                  have c1 := hq4.cell cj
                  have c2 := hq4.cell ci
                  clear q1 q2 n0 hw' hq4 cj ci
                  have q1 := qw_cell c1
                  have q2 := qw_cell c2
                  have n0 := qw_some w4
                  go_wp2_with fail
                  refine wp_region_quiet_Q (by kernel_rfl) (by kernel_rfl) ?_
                  repeat (first | go_big_quiet_step (fail) | quiet_step (fail))
                  refine wpQuiet_nil ?_
                  intro w5 hw'
                  have HQ5 : Hid (Q w w5) := HQ4.out.trans (qw_out hw')
                  clear q1 q2 n0 hw' c1 c2 HQ4
                  go_wp2_with fail
                  go_roundg (S.length - (j + 1))
                  case measure => go_light; omega
                  case rel => go_light; exact ⟨j + 1, by rw [HL1.out] <;> simp, by rw [HL2.out] <;> simp, by simp, by omega, rfl, HQ5⟩
            · obtain rfl : j = S.length := by omega
              have hge : ¬ (S.length : Int) < (S.length : Int) := by omega
              rw [HE.out]
              have hl1 : lssN S y ≤ S.length := List.countP_le_length
              have hl2 : samN S y ≤ S.length := List.countP_le_length
              have HD : Hid (isRk S K i ↔ lssN S y ≤ K ∧ K < lssN S y + samN S y) := by
                show isRk S K i ↔ _
                unfold isRk
                rw [HY.out]
              generalize lssN S y = p at *
              generalize samN S y = q at *
              by_cases h1 : p ≤ K
              · have h1' : (p : Int) ≤ (K : Int) := by omega
                by_cases h2 : K < p + q
                · have h2' : (K : Int) < (p : Int) + (q : Int) := by omega
                  have HV : Hid (rkV S K = y) := by
                    show _ = _
                    rw [← HY.out]
                    exact (isRk_val HM.out hlt hK (HD.out.2 ⟨h1, h2⟩)).symm
                  have ci := HX.out.cell (HI.out i hlt)
                  rw [HY.out] at ci
                  clear HD
                  go_wp2_with fail
                  go_ret2
                  rw [HV.out]
                  exact ⟨rfl, HX.out⟩
                · have h2' : ¬ (K : Int) < (p : Int) + (q : Int) := by omega
                  have HN : Hid ((∀ i', i' < i + 1 → ¬ isRk S K i') ∧ Q w wr) := by
                    refine ⟨fun i' hi' => ?_, HX.out⟩
                    rcases Nat.lt_or_ge i' i with c | c
                    · exact HR.out.1 i' c
                    · obtain rfl : i' = i := by omega
                      exact fun hh => h2 (HD.out.1 hh).2
                  clear HD HR HX
                  go_wp2_with fail
                  go_roundg (S.length - (i + 1))
                  case measure => go_light; omega
                  case rel => go_light; exact ⟨i + 1, by simp, by omega, rfl, HN⟩
              · have h1' : ¬ (p : Int) ≤ (K : Int) := by omega
                have HN : Hid ((∀ i', i' < i + 1 → ¬ isRk S K i') ∧ Q w wr) := by
                  refine ⟨fun i' hi' => ?_, HX.out⟩
                  rcases Nat.lt_or_ge i' i with c | c
                  · exact HR.out.1 i' c
                  · obtain rfl : i' = i := by omega
                    exact fun hh => h1 (HD.out.1 hh).1
                clear HD HR HX
                go_wp2_with fail
                go_roundg (S.length - (i + 1))
                case measure => go_light; omega
                case rel => go_light; exact ⟨i + 1, by simp, by omega, rfl, HN⟩
        · exfalso
          obtain ⟨i', h1, h2⟩ := isRk_some HM.out hK
          exact HR.out.1 i' (by omega) h2
set_option maxHeartbeats 4000000 in
set_option maxRecDepth 100000 in
theorem s16share_any (v : Value) (S : List Nat) (num den : Int) (w : World) (hv : USl w v S) (hb : ∀ i, S.getD i 0 < 4294967296) (hn : S.length ≤ 1000000) (h1 : 1 ≤ S.length) :
    Calls Tryz.prog 22 #[v, .int .i64 num, .int .i64 den] w fun e w' => e = .returned (.tuple #[.int .u32 ((sshV 0 S num den).1 : Nat), .int .i64 (sshV 0 S num den).2]) ∧ Q w w' := by
  obtain ⟨ad, cap, rfl⟩ := hv.form
  have KR : Hid (∀ k, Calls Tryz.prog 21 #[.slice ad S.length cap, .int .i64 k] w fun e w' => e = .returned (.tuple #[.int .u32 ((srkV 0 S k).1 : Nat), .int .i64 (srkV 0 S k).2]) ∧ Q w w') := fun k => s16rank_any _ S k w hv hb hn
  unfold sshV
  rw [if_neg (fun h => h rfl)]
  clear hv hb
  generalize S.length = n at *
  by_cases h0 : den < 1
  · rw [if_pos (Or.inl h0)]
    go_enter Tryz.func22, Tryz.ntmps22
    go_wp2_with fail
    go_ret2
    exact ⟨rfl, Q.refl _⟩
  · by_cases g1 : 1048576 < den
    · rw [if_pos (Or.inr (Or.inl g1))]
      go_enter Tryz.func22, Tryz.ntmps22
      go_wp2_with fail
      go_ret2
      exact ⟨rfl, Q.refl _⟩
    · by_cases h2 : num < 0
      · rw [if_pos (Or.inr (Or.inr (Or.inl h2)))]
        go_enter Tryz.func22, Tryz.ntmps22
        go_wp2_with fail
        go_ret2
        exact ⟨rfl, Q.refl _⟩
      · by_cases h3 : den < num
        · rw [if_pos (Or.inr (Or.inr (Or.inr h3)))]
          go_enter Tryz.func22, Tryz.ntmps22
          go_wp2_with fail
          go_ret2
          exact ⟨rfl, Q.refl _⟩
        · rw [if_neg (by omega)]
          obtain ⟨m, hm⟩ : ∃ m, ((n : Int) - 1) * num = m := ⟨_, rfl⟩
          have hmb : 0 ≤ m ∧ m ≤ 1000000 * 1048576 := by
            rw [← hm]
            refine ⟨Int.mul_nonneg (by omega) (by omega), ?_⟩
            exact Int.le_trans (Int.mul_le_mul_of_nonneg_right (by omega) (by omega)) (Int.mul_le_mul_of_nonneg_left (by omega) (by omega))
          obtain ⟨k, hk⟩ : ∃ k, m / den = k := ⟨_, rfl⟩
          have hkb : 0 ≤ k ∧ k ≤ m := by
            rw [← hk]
            exact ⟨Int.ediv_nonneg hmb.1 (by omega), Int.ediv_le_self _ hmb.1⟩
          have et : Int.tdiv m den = k := by rw [Int.tdiv_eq_ediv_of_nonneg hmb.1]; exact hk
          rw [hm, hk]
          have HR : Hid _ := KR.out k
          generalize (srkV 0 S k).1 = v0 at *
          generalize (srkV 0 S k).2 = v1 at *
          have em : wrap64 (((n : Int) - 1) * num) = m := by rw [hm]; unfold wrap64; omega
          have hd0 : (den == 0) = false := by simp; omega
          clear KR hk
          go_enter Tryz.func22, Tryz.ntmps22
          go_wp2_with fail
          refine Calls.mono HR.out ?_
          rintro e w1 ⟨rfl, q1⟩
          go_wp2_with fail
          go_ret2
          exact ⟨rfl, q1⟩
end Go.Proofs.YtieojgblamkgoaaGreatDoor
/- Copies of planes. -/
namespace Go.Proofs.YtieojgblamkgoaaGreatDoor
open Go.RowKit
set_option linter.unusedVariables false
set_option linter.unusedSimpArgs false

theorem uInfoq : ∃ i, Tryz.prog.info? 43 = some i ∧ i.size = 1 ∧ i.bytes = 4 ∧ i.zero = some (.int .u32 0) := info_of (by kernel_rfl) (by kernel_rfl)
theorem run_appopq {P : Program} {A : Act} {o : Oper} {x x' : World} {s u : Operand} {t : TypeId} (ho : o.op = .call { callee := .builtin .append, args := #[s, u], argTypes := #[t, t] }) {v v' r : Value} (hs : A.eval s = v) (hu : A.eval u = v') (hr : (Builtin.append_ #[t, t] o.type #[v, v']).run P x = .ok r x') : (execOp A.eval o).run P x = .ok (.value r) x' := by
  unfold execOp
  simp only [ho, resolve, invoke, builtin, Sem.run_bind, Sem.run_pure, Result.andThen_ok, List.map_toArray, List.map_cons, List.map_nil, hs, hu, hr]
set_option maxHeartbeats 2000000 in
set_option maxRecDepth 100000 in
theorem hcopy_some (w : World) (pw ph : Int) (g o n c : Nat) (S : List Nat) (hS : S.length = n) (hI : UIs w g o S) (h1 : 1 ≤ n) (h2 : n ≤ 1000000) :
    Calls Tryz.prog 16 #[.agg #[.int .i64 pw, .int .i64 ph, .slice (some ⟨g, o, none⟩) n c]] w fun e w' => ∃ v, e = .returned v ∧ ∃ b cap, v = .agg #[.int .i64 pw, .int .i64 ph, .slice (some ⟨b, 0, none⟩) n cap] ∧ n ≤ cap ∧ b < w'.heap.size ∧ Own w w' b S := by
  have HI : Hid (∀ x : World, Q w x → UIs x g o S) := fun x q => hI.next q
  have HN : Hid (S.length = n) := hS
  clear hI hS
  go_enter Tryz.func16, Tryz.ntmps16
  go_wp2_with fail
  have HQ : Hid (Q w ((w.alloc (Obj.cells #[Value.int IntKind.i64 pw, Value.int IntKind.i64 ph, .slice (some ⟨g, o, none⟩) n c] 26)).alloc (Obj.cells #[Value.int IntKind.i64 0, Value.int IntKind.i64 0, Value.slice none 0 0] 26))) := ((Q.refl w).cells _ _).cells _ _
  have c0 : ((w.alloc (Obj.cells #[Value.int IntKind.i64 pw, Value.int IntKind.i64 ph, .slice (some ⟨g, o, none⟩) n c] 26)).alloc (Obj.cells #[Value.int IntKind.i64 0, Value.int IntKind.i64 0, Value.slice none 0 0] 26)).cell? ⟨w.heap.size, 0, none⟩ = some (.int .i64 pw) := by simp [go_sem]
  have c1 : ((w.alloc (Obj.cells #[Value.int IntKind.i64 pw, Value.int IntKind.i64 ph, .slice (some ⟨g, o, none⟩) n c] 26)).alloc (Obj.cells #[Value.int IntKind.i64 0, Value.int IntKind.i64 0, Value.slice none 0 0] 26)).cell? ⟨w.heap.size, 1, none⟩ = some (.int .i64 ph) := by simp [go_sem]
  have c2 : ((w.alloc (Obj.cells #[Value.int IntKind.i64 pw, Value.int IntKind.i64 ph, .slice (some ⟨g, o, none⟩) n c] 26)).alloc (Obj.cells #[Value.int IntKind.i64 0, Value.int IntKind.i64 0, Value.slice none 0 0] 26)).cell? ⟨w.heap.size, 2, none⟩ = some (.slice (some ⟨g, o, none⟩) n c) := by simp [go_sem]
  have d0 : ((w.alloc (Obj.cells #[Value.int IntKind.i64 pw, Value.int IntKind.i64 ph, .slice (some ⟨g, o, none⟩) n c] 26)).alloc (Obj.cells #[Value.int IntKind.i64 0, Value.int IntKind.i64 0, Value.slice none 0 0] 26)).cell? ⟨w.heap.size + 1, 0, none⟩ = some (.int .i64 0) := by simp [go_sem]
  have d1 : ((w.alloc (Obj.cells #[Value.int IntKind.i64 pw, Value.int IntKind.i64 ph, .slice (some ⟨g, o, none⟩) n c] 26)).alloc (Obj.cells #[Value.int IntKind.i64 0, Value.int IntKind.i64 0, Value.slice none 0 0] 26)).cell? ⟨w.heap.size + 1, 1, none⟩ = some (.int .i64 0) := by simp [go_sem]
  have d2 : ((w.alloc (Obj.cells #[Value.int IntKind.i64 pw, Value.int IntKind.i64 ph, .slice (some ⟨g, o, none⟩) n c] 26)).alloc (Obj.cells #[Value.int IntKind.i64 0, Value.int IntKind.i64 0, Value.slice none 0 0] 26)).cell? ⟨w.heap.size + 1, 2, none⟩ = some (.slice none 0 0) := by simp [go_sem]
  have fz : ∀ j, ((w.alloc (Obj.cells #[Value.int IntKind.i64 pw, Value.int IntKind.i64 ph, .slice (some ⟨g, o, none⟩) n c] 26)).alloc (Obj.cells #[Value.int IntKind.i64 0, Value.int IntKind.i64 0, Value.slice none 0 0] 26)).frozen? ⟨w.heap.size + 1, j, none⟩ = false := fun j => by simp [go_sem]
  have hsz : ((w.alloc (Obj.cells #[Value.int IntKind.i64 pw, Value.int IntKind.i64 ph, .slice (some ⟨g, o, none⟩) n c] 26)).alloc (Obj.cells #[Value.int IntKind.i64 0, Value.int IntKind.i64 0, Value.slice none 0 0] 26)).heap.size = w.heap.size + 2 := by simp
  generalize ((w.alloc (Obj.cells #[Value.int IntKind.i64 pw, Value.int IntKind.i64 ph, .slice (some ⟨g, o, none⟩) n c] 26)).alloc (Obj.cells #[Value.int IntKind.i64 0, Value.int IntKind.i64 0, Value.slice none 0 0] 26)) = wz at *
  have n0 := qw_some wz
  have f0 := qw_cell c0
  have f1 := qw_cell c1
  have f2 := qw_cell c2
  refine wp_region_mk [0, 1, 2, 3, 4, 5] [[6, 7, 8]] 3 _ (by kernel_rfl) (by kernel_rfl) rfl (by kernel_rfl) ?_
  simp only [List.filterMap_cons, List.filterMap_nil, List.getElem?_cons_zero, List.getElem?_cons_succ]
  repeat (first | go_big_quiet_step (fail) | quiet_step (fail))
  refine wpQuiet_nil ?_
  intro x hx
  obtain ⟨iu, i1, i2, i3, i4⟩ := uInfoq
  obtain ⟨cap, w7, hr7, hq7, hc1, hc2, hz7, hn7, -, hf7⟩ := run_app_room (P := Tryz.prog) x 24 24 43 iu _ Tryz.underlying24 i1 i4 (by rw [i2]; rfl) (.slice none 0 0) (Or.inl rfl) ⟨g, o, none⟩ n c (S.map fun (s : Nat) => Value.int .u32 (s : Int)) (by rw [List.length_map, HN.out, i2]; omega) (fun j u hu => by
    rw [List.getElem?_map] at hu
    cases hj : S[j]? with
    | none => rw [hj] at hu; cases hu
    | some s =>
      rw [hj] at hu
      have hu := Option.some.inj hu
      have hjl : j < S.length := (List.getElem?_eq_some_iff.1 hj).1
      have := HI.out x (HQ.out.trans hx) j hjl
      rw [List.getD_eq_getElem?_getD, hj] at this
      rw [← hu, show (⟨g, o, none⟩ : Addr).add j = ⟨g, o + j, none⟩ by unfold Addr.add; split <;> simp_all]
      exact this) (by omega) (by omega) (by rw [i3]; omega)
  have hc7 : ∀ i, i < S.length → w7.cell? ⟨x.heap.size, i, none⟩ = some (.int .u32 ((S.getD i 0 : Nat) : Int)) := fun i hi => by
    refine hn7 i _ ?_
    rw [List.getElem?_map, List.getElem?_eq_getElem hi, List.getD_eq_getElem?_getD, List.getElem?_eq_getElem hi]
    rfl
  have hq2 : Q wz w7 := hx.trans hq7
  refine tree_run 6 rfl rfl (v := .slice (some ⟨x.heap.size, 0, none⟩) n cap) (x' := w7) (run_appopq rfl (v := .slice none 0 0) (v' := .slice (some ⟨g, o, none⟩) n c) (by simp [Act.eval, Act.put]) (by simp [Act.eval, Act.put]) hr7) hq2 ?_
  refine tree_run 7 rfl rfl (v := .agg #[.int .i64 pw, .int .i64 ph, .slice (some ⟨x.heap.size, 0, none⟩) n cap]) (x' := w7) (by simp [execOp, go_sem]) hq2 ?_
  have d02 := hq2.cell d0
  have d12 := hq2.cell d1
  have d22 := hq2.cell d2
  have fz2 : ∀ j, w7.frozen? ⟨w.heap.size + 1, j, none⟩ = false := fun j => (hq2.2 _).trans (fz j)
  refine tree_skipF 8 rfl rfl rfl (x' := (((w7.setCell ⟨w.heap.size + 1, 0, none⟩ (.int .i64 pw)).setCell ⟨w.heap.size + 1, 1, none⟩ (.int .i64 ph)).setCell ⟨w.heap.size + 1, 2, none⟩ (.slice (some ⟨x.heap.size, 0, none⟩) n cap))) (by simp [execOp, go_sem, d02, d12, d22, fz2]) ?_
  refine tree_nil ?_
  have HO : Hid (Own w (((w7.setCell ⟨w.heap.size + 1, 0, none⟩ (.int .i64 pw)).setCell ⟨w.heap.size + 1, 1, none⟩ (.int .i64 ph)).setCell ⟨w.heap.size + 1, 2, none⟩ (.slice (some ⟨x.heap.size, 0, none⟩) n cap)) x.heap.size S) := by
    have hlt : w.heap.size + 1 < x.heap.size := by have := hx.1.size; omega
    have hne : ∀ j, (⟨x.heap.size, j, none⟩ : Addr) ≠ ⟨w.heap.size + 1, 0, none⟩ := fun j e => by injection e with e; omega
    refine ⟨(((HQ.out.trans hq2).set (Nat.le_succ _) _).set (Nat.le_succ _) _).set (Nat.le_succ _) _, by omega, fun i hi => ?_, fun j => ?_⟩
    · rw [World.cell?_setCell_other _ _ _ _ (fun e => by injection e with e; omega), World.cell?_setCell_other _ _ _ _ (fun e => by injection e with e; omega), World.cell?_setCell_other _ _ _ _ (fun e => by injection e with e; omega), Nat.zero_add]
      exact hc7 i hi
    · rw [World.frozen?_setCell, World.frozen?_setCell, World.frozen?_setCell]
      exact hf7 j
  have k0 : (((w7.setCell ⟨w.heap.size + 1, 0, none⟩ (.int .i64 pw)).setCell ⟨w.heap.size + 1, 1, none⟩ (.int .i64 ph)).setCell ⟨w.heap.size + 1, 2, none⟩ (.slice (some ⟨x.heap.size, 0, none⟩) n cap)).cell? ⟨w.heap.size + 1, 0, none⟩ = some (.int .i64 pw) := by simp [go_sem, d02, d12, d22]
  have k1 : (((w7.setCell ⟨w.heap.size + 1, 0, none⟩ (.int .i64 pw)).setCell ⟨w.heap.size + 1, 1, none⟩ (.int .i64 ph)).setCell ⟨w.heap.size + 1, 2, none⟩ (.slice (some ⟨x.heap.size, 0, none⟩) n cap)).cell? ⟨w.heap.size + 1, 1, none⟩ = some (.int .i64 ph) := by simp [go_sem, d02, d12, d22]
  have k2 : (((w7.setCell ⟨w.heap.size + 1, 0, none⟩ (.int .i64 pw)).setCell ⟨w.heap.size + 1, 1, none⟩ (.int .i64 ph)).setCell ⟨w.heap.size + 1, 2, none⟩ (.slice (some ⟨x.heap.size, 0, none⟩) n cap)).cell? ⟨w.heap.size + 1, 2, none⟩ = some (.slice (some ⟨x.heap.size, 0, none⟩) n cap) := by simp [go_sem, d02, d12, d22]
  generalize (((w7.setCell ⟨w.heap.size + 1, 0, none⟩ (.int .i64 pw)).setCell ⟨w.heap.size + 1, 1, none⟩ (.int .i64 ph)).setCell ⟨w.heap.size + 1, 2, none⟩ (.slice (some ⟨x.heap.size, 0, none⟩) n cap)) = w5 at *
  clear d02 d12 d22 fz2 hq2 hx c0 c1 c2 d0 d1 d2 fz hr7 hq7
  go_wp2_with fail
  have hb5 : x.heap.size < w5.heap.size := World.block_lt_of_cell? _ _ (HO.out.cells 0 (by rw [HN.out]; omega))
  exact bodyPost_ret (v := .agg #[.int .i64 pw, .int .i64 ph, .slice (some ⟨x.heap.size, 0, none⟩) n cap]) (by simp [results, Tryz.results16, go_sem, k0, k1, k2]) rfl ⟨_, rfl, x.heap.size, cap, rfl, hc1, hb5, HO.out⟩
theorem run_app_none (x : World) (ad : Option Addr) (c : Nat) : ∃ w7, (Builtin.append_ #[24, 24] 24 #[.slice none 0 0, .slice ad 0 c]).run Tryz.prog x = .ok (.slice none 0 0) w7 ∧ Q x w7 := by
  refine ⟨x, ?_, Q.refl x⟩
  cases ad <;> simp [Builtin.append_, go_sem]
set_option maxHeartbeats 2000000 in
set_option maxRecDepth 100000 in
theorem hcopy_none (w : World) (pw ph : Int) (ad : Option Addr) (c : Nat) :
    Calls Tryz.prog 16 #[.agg #[.int .i64 pw, .int .i64 ph, .slice ad 0 c]] w fun e w' => ∃ v, e = .returned v ∧ v = .agg #[.int .i64 pw, .int .i64 ph, .slice none 0 0] ∧ Q w w' := by
  go_enter Tryz.func16, Tryz.ntmps16
  go_wp2_with fail
  have HQ : Hid (Q w ((w.alloc (Obj.cells #[Value.int IntKind.i64 pw, Value.int IntKind.i64 ph, .slice ad 0 c] 26)).alloc (Obj.cells #[Value.int IntKind.i64 0, Value.int IntKind.i64 0, Value.slice none 0 0] 26))) := ((Q.refl w).cells _ _).cells _ _
  have c0 : ((w.alloc (Obj.cells #[Value.int IntKind.i64 pw, Value.int IntKind.i64 ph, .slice ad 0 c] 26)).alloc (Obj.cells #[Value.int IntKind.i64 0, Value.int IntKind.i64 0, Value.slice none 0 0] 26)).cell? ⟨w.heap.size, 0, none⟩ = some (.int .i64 pw) := by simp [go_sem]
  have c1 : ((w.alloc (Obj.cells #[Value.int IntKind.i64 pw, Value.int IntKind.i64 ph, .slice ad 0 c] 26)).alloc (Obj.cells #[Value.int IntKind.i64 0, Value.int IntKind.i64 0, Value.slice none 0 0] 26)).cell? ⟨w.heap.size, 1, none⟩ = some (.int .i64 ph) := by simp [go_sem]
  have c2 : ((w.alloc (Obj.cells #[Value.int IntKind.i64 pw, Value.int IntKind.i64 ph, .slice ad 0 c] 26)).alloc (Obj.cells #[Value.int IntKind.i64 0, Value.int IntKind.i64 0, Value.slice none 0 0] 26)).cell? ⟨w.heap.size, 2, none⟩ = some (.slice ad 0 c) := by simp [go_sem]
  have d0 : ((w.alloc (Obj.cells #[Value.int IntKind.i64 pw, Value.int IntKind.i64 ph, .slice ad 0 c] 26)).alloc (Obj.cells #[Value.int IntKind.i64 0, Value.int IntKind.i64 0, Value.slice none 0 0] 26)).cell? ⟨w.heap.size + 1, 0, none⟩ = some (.int .i64 0) := by simp [go_sem]
  have d1 : ((w.alloc (Obj.cells #[Value.int IntKind.i64 pw, Value.int IntKind.i64 ph, .slice ad 0 c] 26)).alloc (Obj.cells #[Value.int IntKind.i64 0, Value.int IntKind.i64 0, Value.slice none 0 0] 26)).cell? ⟨w.heap.size + 1, 1, none⟩ = some (.int .i64 0) := by simp [go_sem]
  have d2 : ((w.alloc (Obj.cells #[Value.int IntKind.i64 pw, Value.int IntKind.i64 ph, .slice ad 0 c] 26)).alloc (Obj.cells #[Value.int IntKind.i64 0, Value.int IntKind.i64 0, Value.slice none 0 0] 26)).cell? ⟨w.heap.size + 1, 2, none⟩ = some (.slice none 0 0) := by simp [go_sem]
  have fz : ∀ j, ((w.alloc (Obj.cells #[Value.int IntKind.i64 pw, Value.int IntKind.i64 ph, .slice ad 0 c] 26)).alloc (Obj.cells #[Value.int IntKind.i64 0, Value.int IntKind.i64 0, Value.slice none 0 0] 26)).frozen? ⟨w.heap.size + 1, j, none⟩ = false := fun j => by simp [go_sem]
  have hsz : ((w.alloc (Obj.cells #[Value.int IntKind.i64 pw, Value.int IntKind.i64 ph, .slice ad 0 c] 26)).alloc (Obj.cells #[Value.int IntKind.i64 0, Value.int IntKind.i64 0, Value.slice none 0 0] 26)).heap.size = w.heap.size + 2 := by simp
  generalize ((w.alloc (Obj.cells #[Value.int IntKind.i64 pw, Value.int IntKind.i64 ph, .slice ad 0 c] 26)).alloc (Obj.cells #[Value.int IntKind.i64 0, Value.int IntKind.i64 0, Value.slice none 0 0] 26)) = wz at *
  have n0 := qw_some wz
  have f0 := qw_cell c0
  have f1 := qw_cell c1
  have f2 := qw_cell c2
  refine wp_region_mk [0, 1, 2, 3, 4, 5] [[6, 7, 8]] 3 _ (by kernel_rfl) (by kernel_rfl) rfl (by kernel_rfl) ?_
  simp only [List.filterMap_cons, List.filterMap_nil, List.getElem?_cons_zero, List.getElem?_cons_succ]
  repeat (first | go_big_quiet_step (fail) | quiet_step (fail))
  refine wpQuiet_nil ?_
  intro x hx
  obtain ⟨iu, i1, i2, i3, i4⟩ := uInfoq
  obtain ⟨w7, hr7, hq7⟩ : ∃ w7, (Builtin.append_ #[24, 24] 24 #[.slice none 0 0, .slice ad 0 c]).run Tryz.prog x = .ok (.slice none 0 0) w7 ∧ Q x w7 := run_app_none x ad c
  have hq2 : Q wz w7 := hx.trans hq7
  refine tree_run 6 rfl rfl (v := .slice none 0 0) (x' := w7) (run_appopq rfl (v := .slice none 0 0) (v' := .slice ad 0 c) (by simp [Act.eval, Act.put]) (by simp [Act.eval, Act.put]) hr7) hq2 ?_
  refine tree_run 7 rfl rfl (v := .agg #[.int .i64 pw, .int .i64 ph, .slice none 0 0]) (x' := w7) (by simp [execOp, go_sem]) hq2 ?_
  have d02 := hq2.cell d0
  have d12 := hq2.cell d1
  have d22 := hq2.cell d2
  have fz2 : ∀ j, w7.frozen? ⟨w.heap.size + 1, j, none⟩ = false := fun j => (hq2.2 _).trans (fz j)
  refine tree_skipF 8 rfl rfl rfl (x' := (((w7.setCell ⟨w.heap.size + 1, 0, none⟩ (.int .i64 pw)).setCell ⟨w.heap.size + 1, 1, none⟩ (.int .i64 ph)).setCell ⟨w.heap.size + 1, 2, none⟩ (.slice none 0 0))) (by simp [execOp, go_sem, d02, d12, d22, fz2]) ?_
  refine tree_nil ?_
  have HO : Hid (Q w (((w7.setCell ⟨w.heap.size + 1, 0, none⟩ (.int .i64 pw)).setCell ⟨w.heap.size + 1, 1, none⟩ (.int .i64 ph)).setCell ⟨w.heap.size + 1, 2, none⟩ (.slice none 0 0))) := by
    exact (((HQ.out.trans hq2).set (Nat.le_succ _) _).set (Nat.le_succ _) _).set (Nat.le_succ _) _
  have k0 : (((w7.setCell ⟨w.heap.size + 1, 0, none⟩ (.int .i64 pw)).setCell ⟨w.heap.size + 1, 1, none⟩ (.int .i64 ph)).setCell ⟨w.heap.size + 1, 2, none⟩ (.slice none 0 0)).cell? ⟨w.heap.size + 1, 0, none⟩ = some (.int .i64 pw) := by simp [go_sem, d02, d12, d22]
  have k1 : (((w7.setCell ⟨w.heap.size + 1, 0, none⟩ (.int .i64 pw)).setCell ⟨w.heap.size + 1, 1, none⟩ (.int .i64 ph)).setCell ⟨w.heap.size + 1, 2, none⟩ (.slice none 0 0)).cell? ⟨w.heap.size + 1, 1, none⟩ = some (.int .i64 ph) := by simp [go_sem, d02, d12, d22]
  have k2 : (((w7.setCell ⟨w.heap.size + 1, 0, none⟩ (.int .i64 pw)).setCell ⟨w.heap.size + 1, 1, none⟩ (.int .i64 ph)).setCell ⟨w.heap.size + 1, 2, none⟩ (.slice none 0 0)).cell? ⟨w.heap.size + 1, 2, none⟩ = some (.slice none 0 0) := by simp [go_sem, d02, d12, d22]
  generalize (((w7.setCell ⟨w.heap.size + 1, 0, none⟩ (.int .i64 pw)).setCell ⟨w.heap.size + 1, 1, none⟩ (.int .i64 ph)).setCell ⟨w.heap.size + 1, 2, none⟩ (.slice none 0 0)) = w5 at *
  clear d02 d12 d22 fz2 hq2 hx c0 c1 c2 d0 d1 d2 fz hr7 hq7
  go_wp2_with fail
  exact bodyPost_ret (v := .agg #[.int .i64 pw, .int .i64 ph, .slice none 0 0]) (by simp [results, Tryz.results16, go_sem, k0, k1, k2]) rfl ⟨_, rfl, rfl, HO.out⟩
end Go.Proofs.YtieojgblamkgoaaGreatDoor
/- Lists of samples that are the same. -/
namespace Go.Proofs.YtieojgblamkgoaaGreatDoor
open Go.RowKit
set_option linter.unusedVariables false
set_option linter.unusedSimpArgs false

set_option maxHeartbeats 4000000 in
set_option maxRecDepth 100000 in
theorem words_eq (v v' : Value) (xs : List Nat) (w : World) (h : USl w v xs) (h' : USl w v' xs) (hn : xs.length ≤ 9223372036854775807) :
    Calls Tryz.prog 26 #[v, v'] w fun e w' => e = .returned (.bool true) ∧ Q w w' := by
  obtain ⟨a, cap, ev⟩ := h.form
  obtain ⟨a', cap', ev'⟩ := h'.form
  subst ev ev'
  have HS : Hid (USl w (.slice a xs.length cap) xs) := h
  have HT : Hid (USl w (.slice a' xs.length cap') xs) := h'
  obtain ⟨n, en⟩ : ∃ n, xs.length = n := ⟨_, rfl⟩
  have HN : Hid (xs.length = n) := en
  rw [en] at HS HT hn ⊢
  have hnn : ((n : Int) == (n : Int)) = true := by simp
  clear h h' en
  go_enter Tryz.func26, Tryz.ntmps26
  go_wp2_with fail
  go_loopg [5] n (fun m s5 wx => ∃ i : Nat, s5 = .int .i64 i ∧ i + m = n ∧ Hid (Q w wx))
  case atStart => exact ⟨0, rfl, by omega, Q.refl w⟩
  case round =>
    obtain ⟨i, rfl, him, HQ⟩ := hrel
    by_cases hi : i < n
    · have hi0 : (0 : Int) ≤ (i : Int) := by omega
      have hi1 : (i : Int) < (n : Int) := by omega
      obtain ⟨g, o, c, e1, e2, e3⟩ := HS.out.some (by rw [HN.out]; omega)
      obtain ⟨g', o', c', f1, f2, f3⟩ := HT.out.some (by rw [HN.out]; omega)
      injection e1 with e1 hh1 hh2
      clear hh1 hh2
      injection f1 with f1 hh1 hh2
      clear hh1 hh2
      subst e1 f1
      have c1 := HQ.out.cell (e3 i (by rw [HN.out]; exact hi))
      have c2 := HQ.out.cell (f3 i (by rw [HN.out]; exact hi))
      obtain ⟨z, hz⟩ : ∃ z, xs.getD i 0 = z := ⟨_, rfl⟩
      rw [hz] at c1 c2
      have hzz : ((z : Int) == (z : Int)) = true := by simp
      have n0 := qw_some wr
      have d1 := qw_cell c1
      have d2 := qw_cell c2
      clear hz e2 e3 f2 f3
      go_wp2_with fail
      refine wp_region_quiet_Q (by kernel_rfl) (by kernel_rfl) ?_
      repeat (first | go_big_quiet_step (fail) | quiet_step (fail))
      refine wpQuiet_nil ?_
      intro w4 hw'
      have hq4 := qw_out hw'
      have HQ4 : Hid (Q w w4) := HQ.out.trans hq4
      clear hw' n0 d1 d2
      go_wp2_with fail
      go_roundg (n - (i + 1))
      case measure => go_light; omega
      case rel => go_light; exact ⟨i + 1, by go_num, by omega, HQ4⟩
    · have hie : i = n := by omega
      go_wp2_with fail
      go_ret
      exact ⟨rfl, HQ.out⟩
end Go.Proofs.YtieojgblamkgoaaGreatDoor
/- Planes that are the same. -/
namespace Go.Proofs.YtieojgblamkgoaaGreatDoor
open Go.RowKit
set_option linter.unusedVariables false
set_option linter.unusedSimpArgs false

set_option maxHeartbeats 2000000 in
set_option maxRecDepth 100000 in
theorem hplanes_yes (a b : Int) (p q : Option Addr) (n c d : Nat) (S : List Nat) (w : World) (h : USl w (.slice p n c) S) (h' : USl w (.slice q n d) S) (hn : S.length ≤ 9223372036854775807) :
    Calls Tryz.prog 19 #[.agg #[.int .i64 a, .int .i64 b, .slice p n c], .agg #[.int .i64 a, .int .i64 b, .slice q n d]] w fun e w' => e = .returned (.bool true) ∧ Q w w' := by
  have H1 : Hid (USl w (.slice p n c) S) := h
  have H2 : Hid (USl w (.slice q n d) S) := h'
  clear h h'
  have qa : Hid (∀ a b c d, Q w ((w.alloc (.cells a b)).alloc (.cells c d))) := fun a b c d => ((Q.refl w).cells _ _).cells _ _
  go_enter Tryz.func19, Tryz.ntmps19
  go_wp2_with fail
  refine (words_eq _ _ S _ (H1.out.next (qa.out _ _ _ _)) (H2.out.next (qa.out _ _ _ _)) hn).mono ?_
  rintro e w1 ⟨rfl, q1⟩
  go_wp2_with fail
  go_ret
  exact ⟨rfl, (qa.out _ _ _ _).trans q1⟩
end Go.Proofs.YtieojgblamkgoaaGreatDoor
/- The statements' helpers: sizes, planes that may be. (Out of BlL.) -/
namespace Go.Proofs.YtieojgblamkgoaaGreatDoor
open Go.RowKit
set_option linter.unusedVariables false
set_option linter.unusedSimpArgs false

set_option maxHeartbeats 2000000 in
set_option maxRecDepth 100000 in
theorem hsize_b (W H : Int) (w : World) : Calls Tryz.prog 58 #[.int .i64 W, .int .i64 H] w fun e w' => e = .returned (.bool (sizeB W H)) ∧ w' = w := by
  have E : Hid (sizeB W H = true ↔ SizeB W H) := sizeB_true
  have EF : Hid (¬ SizeB W H → sizeB W H = false) := fun h => by
    cases g : sizeB W H
    · rfl
    · exact absurd (sizeB_true.1 g) h
  generalize sizeB W H = b at *
  rcases Int.lt_or_le W 1 with h0 | h0
  · obtain rfl : b = false := EF.out (fun c => by unfold SizeB at c; omega)
    clear E EF
    go_enter Tryz.func58, Tryz.ntmps58
    go_wp2_with fail
    exact bodyPost_ret (v := .bool false) (by simp [results, Tryz.results58, go_sem] <;> omega) rfl ⟨rfl, rfl⟩
  rcases Int.lt_or_le H 1 with h1 | h1
  · obtain rfl : b = false := EF.out (fun c => by unfold SizeB at c; omega)
    clear E EF
    go_enter Tryz.func58, Tryz.ntmps58
    go_wp2_with fail
    exact bodyPost_ret (v := .bool false) (by simp [results, Tryz.results58, go_sem] <;> omega) rfl ⟨rfl, rfl⟩
  rcases Int.lt_or_le 1024 W with h2 | h2
  · obtain rfl : b = false := EF.out (fun c => by unfold SizeB at c; omega)
    clear E EF
    go_enter Tryz.func58, Tryz.ntmps58
    go_wp2_with fail
    exact bodyPost_ret (v := .bool false) (by simp [results, Tryz.results58, go_sem] <;> omega) rfl ⟨rfl, rfl⟩
  rcases Int.lt_or_le 1024 H with h3 | h3
  · obtain rfl : b = false := EF.out (fun c => by unfold SizeB at c; omega)
    clear E EF
    go_enter Tryz.func58, Tryz.ntmps58
    go_wp2_with fail
    exact bodyPost_ret (v := .bool false) (by simp [results, Tryz.results58, go_sem] <;> omega) rfl ⟨rfl, rfl⟩
  have hb1 : 0 ≤ W * H := Int.mul_nonneg (by omega) (by omega)
  have hb2 : W * H ≤ 1048576 := Int.le_trans (Int.mul_le_mul h2 h3 (by omega) (by omega)) (by decide)
  rcases Int.lt_or_le 65536 (W * H) with h4 | h4
  · obtain rfl : b = false := EF.out (fun c => by unfold SizeB at c; omega)
    clear E EF
    go_enter Tryz.func58, Tryz.ntmps58
    go_wp2_with fail
    exact bodyPost_ret (v := .bool false) (by simp [results, Tryz.results58, go_sem] <;> omega) rfl ⟨rfl, rfl⟩
  · obtain rfl : b = true := E.out.2 (by unfold SizeB; omega)
    clear E EF
    go_enter Tryz.func58, Tryz.ntmps58
    go_wp2_with fail
    exact bodyPost_ret (v := .bool true) (by simp [results, Tryz.results58, go_sem] <;> omega) rfl ⟨rfl, rfl⟩
set_option maxHeartbeats 2000000 in
set_option maxRecDepth 100000 in
theorem may_any (W H : Int) (ad : Option Addr) (n c : Nat) (w : World) : Calls Tryz.prog 20 #[.agg #[.int .i64 W, .int .i64 H, .slice ad n c]] w fun e w' => e = .returned (.int .i64 (chk W H n)) ∧ Q w w' := by
  obtain ⟨w1, hw1⟩ : ∃ w1, w.alloc (.cells #[.int .i64 W, .int .i64 H, .slice ad n c] 26) = w1 := ⟨_, rfl⟩
  have HQ : Hid (Q w w1) := by show Q w w1; rw [← hw1]; exact (Q.refl w).cells _ _
  have k0 : w1.cell? ⟨w.heap.size, 0, none⟩ = some (.int .i64 W) := by rw [← hw1]; simp [go_sem]
  have k1 : w1.cell? ⟨w.heap.size, 1, none⟩ = some (.int .i64 H) := by rw [← hw1]; simp [go_sem]
  have k2 : w1.cell? ⟨w.heap.size, 2, none⟩ = some (.slice ad n c) := by rw [← hw1]; simp [go_sem]
  have C := hsize_b W H w1
  cases hs : sizeB W H
  · rw [hs] at C
    rw [chk_bad hs]
    go_enter Tryz.func20, Tryz.ntmps20
    go_wp2_with fail
    refine C.mono ?_
    rintro e w2 ⟨rfl, hw2⟩
    obtain rfl := hw2.symm
    clear hw2 C
    go_wp2_with fail
    go_ret
    exact ⟨rfl, HQ.out⟩
  · rw [hs] at C
    have hb := sizeB_true.1 hs
    have hb1 : 0 ≤ W * H := Int.mul_nonneg (by unfold SizeB at hb; omega) (by unfold SizeB at hb; omega)
    have hb2 : W * H ≤ 65536 := by unfold SizeB at hb; omega
    by_cases hn : (n : Int) = W * H
    · rw [chk_ok hs hn]
      have e1 : ((n : Int) != W * H) = false := by simpa using hn
      clear hn hb hs
      go_enter Tryz.func20, Tryz.ntmps20
      go_wp2_with fail
      refine C.mono ?_
      rintro e w2 ⟨rfl, hw2⟩
      obtain rfl := hw2.symm
      clear hw2 C
      go_wp2_with fail
      go_ret
      exact ⟨rfl, HQ.out⟩
    · rw [chk_count hs hn]
      have e1 : ((n : Int) != W * H) = true := by simpa using hn
      clear hn hb hs
      go_enter Tryz.func20, Tryz.ntmps20
      go_wp2_with fail
      refine C.mono ?_
      rintro e w2 ⟨rfl, hw2⟩
      obtain rfl := hw2.symm
      clear hw2 C
      go_wp2_with fail
      go_ret
      exact ⟨rfl, HQ.out⟩
end Go.Proofs.YtieojgblamkgoaaGreatDoor
