/- The statement StatRanks: its walk. -/
import Derived.Test.YtieojgblamkgoaaGreatDoorGe7d91a88
import Derived.Test.YtieojgblamkgoaaGreatDoorGef3439fe
namespace Go.Proofs.YtieojgblamkgoaaGreatDoor
open Go.RowKit
set_option linter.unusedVariables false
set_option linter.unusedSimpArgs false

/-- A copy, empty or not. -/
theorem hcopy_al2 (w : World) (pw ph : Int) (ad : Option Addr) (n c : Nat) (S : List Nat) (hS : S.length = n) (hU : USl w (.slice ad n c) S) (h2 : n ≤ 1000000) :
    Calls Tryz.prog 16 #[.agg #[.int .i64 pw, .int .i64 ph, .slice ad n c]] w fun e w' => ∃ ad' c', e = .returned (.agg #[.int .i64 pw, .int .i64 ph, .slice ad' n c']) ∧ USl w' (.slice ad' n c') S ∧ Q w w' := by
  rcases Nat.lt_or_ge 0 n with h1 | h1
  · obtain ⟨g, o, cap, hv, hc, hI⟩ := hU.some (by omega)
    injection hv with hv1 _ _
    subst hv1
    refine (hcopy_some w pw ph g o n c S hS hI h1 h2).mono ?_
    rintro e w' ⟨v, rfl, b, cap', rfl, hc', hb, hO⟩
    refine ⟨_, _, rfl, ?_, hO.q⟩
    have := hO.cells.usl (cap := cap') (by omega)
    rw [hS] at this
    exact this
  · obtain rfl : n = 0 := by omega
    obtain rfl : S = [] := List.length_eq_zero_iff.1 hS
    refine (hcopy_none w pw ph ad c).mono ?_
    rintro e w' ⟨v, rfl, rfl, q⟩
    exact ⟨_, _, rfl, Or.inr ⟨_, _, rfl, rfl⟩, q⟩
theorem srk_bad {E : Int} (h : E ≠ 0) (S : List Nat) (k : Int) : srkV E S k = (0, E) := if_pos h
theorem ssh_bad {E : Int} (h : E ≠ 0) (S : List Nat) (a b : Int) : sshV E S a b = (0, E) := if_pos h
set_option maxHeartbeats 8000000 in
set_option maxRecDepth 100000 in
theorem sranks_walk (W0 : World) (pw ph k num den : Int) (sv : Value) (S : List Nat) (us : USl W0 sv S) (hSb : ∀ i, S.getD i 0 < 4294967296) (hml : S.length ≤ 9223372036854775807) (hT : Tab W0) :
    Calls Tryz.prog 4 #[.agg #[.int .i64 pw, .int .i64 ph, sv], .int .i64 k, .int .i64 num, .int .i64 den] W0 fun e w' => e = .returned (.bool true) ∧ Qb W0 w' := by
  obtain ⟨ad, c, rfl⟩ := us.form
  obtain ⟨n, hn⟩ : ∃ n, S.length = n := ⟨_, rfl⟩
  rw [hn] at us hml ⊢
  obtain ⟨w1, hw1⟩ : ∃ w1, W0.alloc (.cells #[.int .i64 pw, .int .i64 ph, .slice ad n c] 26) = w1 := ⟨_, rfl⟩
  have q1 : Q W0 w1 := by rw [← hw1]; exact (Q.refl W0).cells _ _
  have p0 : w1.cell? ⟨W0.heap.size, 0, none⟩ = some (.int .i64 pw) := by rw [← hw1]; simp [go_sem]
  have p1 : w1.cell? ⟨W0.heap.size, 1, none⟩ = some (.int .i64 ph) := by rw [← hw1]; simp [go_sem]
  have p2 : w1.cell? ⟨W0.heap.size, 2, none⟩ = some (.slice ad n c) := by rw [← hw1]; simp [go_sem]
  have HK : Hid (Calls Tryz.prog 9 #[] w1 fun e w' => e = .returned (.bool true) ∧ Qb w1 w') := known16_any w1 (q1.tab hT)
  have HCy : Hid _ := fun x u h2 => hcopy_al2 x pw ph ad n c S hn u h2
  have HPl : Hid _ := fun ad' c' x u u' => hplanes_yes pw ph ad' ad n c' c S x u u' (by omega)
  obtain ⟨E, hE⟩ : ∃ E, chk pw ph n = E := ⟨_, rfl⟩
  have mr0 := fun ad' c' x u => srank_any pw ph ad' n c' S k x u hn hSb hml
  have ms0 := fun ad' c' x u => sshare_any pw ph ad' n c' S num den x u hn hSb hml
  have mm0 := fun x => may_any pw ph ad n c x
  simp only [hE] at mr0 ms0 mm0
  have HMr : Hid _ := mr0
  have HMs : Hid _ := ms0
  have HMm : Hid _ := mm0
  clear mr0 ms0 mm0
  have HZ : Hid (E = 0 → 1 ≤ S.length) := fun h => by
    obtain ⟨a, b, _, _, hs, he⟩ := chk_zero (hE.trans h)
    have := hs.pos
    omega
  have HDr : Hid _ := fun v x u h2 => s16rank_any v S k x u hSb h2
  have HDs : Hid _ := fun v x u h2 h1 => s16share_any v S num den x u hSb h2 h1
  have HU : Hid (USl w1 (.slice ad n c) S) := us.next q1
  have HQ1 : Hid (Qb W0 w1) := q1.qb
  have HN : Hid (S.length = n) := hn
  clear us q1 hE hT hSb hml hn
  obtain ⟨bp, hbp⟩ : ∃ bp, W0.heap.size = bp := ⟨_, rfl⟩
  rw [hbp] at p0 p1 p2
  go_enter Tryz.func4, Tryz.ntmps4
  go_wp2_with fail
  clear hw1 hbp
  refine Calls.mono HK.out ?_
  rintro e w2 ⟨rfl, q2⟩
  have p0 := q2.cell p0
  have p1 := q2.cell p1
  have p2 := q2.cell p2
  have HQ2 : Hid (Qb W0 w2) := HQ1.out.trans q2
  have HU2 : Hid (USl w2 (.slice ad n c) S) := HU.out.nextB q2
  clear q2 HQ1 HU HK
  by_cases h6 : (600 : Int) < (n : Int)
  · go_wp2_with fail
    go_ret
    exact ⟨rfl, HQ2.out⟩
  have hn6 : n ≤ 600 := by omega
  go_wp2_with fail
  refine Calls.mono (HCy.out _ HU2.out (by omega)) ?_
  rintro e w3 ⟨ad3, c3, rfl, u3, q3⟩
  obtain ⟨w4, hw4⟩ : ∃ w4, w3.alloc (.cells #[.int .i64 pw, .int .i64 ph, .slice ad3 n c3] 26) = w4 := ⟨_, rfl⟩
  have q34 : Q w3 w4 := by rw [← hw4]; exact (Q.refl w3).cells _ _
  have q24 : Q w2 w4 := q3.trans q34
  have i0 : w4.cell? ⟨w3.heap.size, 0, none⟩ = some (.int .i64 pw) := by rw [← hw4]; simp [go_sem]
  have i1 : w4.cell? ⟨w3.heap.size, 1, none⟩ = some (.int .i64 ph) := by rw [← hw4]; simp [go_sem]
  have i2 : w4.cell? ⟨w3.heap.size, 2, none⟩ = some (.slice ad3 n c3) := by rw [← hw4]; simp [go_sem]
  have HI4 : Hid (USl w4 (.slice ad3 n c3) S) := u3.next q34
  have HU4 : Hid (USl w4 (.slice ad n c) S) := HU2.out.next q24
  have HQ4 : Hid (Qb W0 w4) := HQ2.out.trans q24.qb
  have p0 := q24.cell p0
  have p1 := q24.cell p1
  have p2 := q24.cell p2
  clear q3 q34 q24 u3 HU2 HQ2
  go_wp2_with fail
  clear hw4
  generalize w3.heap.size = bi at *
  refine Calls.mono (HMr.out _ _ _ HI4.out) ?_
  rintro e w5 ⟨rfl, q5⟩
  have i0 := q5.cell i0
  have i1 := q5.cell i1
  have i2 := q5.cell i2
  have p0 := q5.cell p0
  have p1 := q5.cell p1
  have p2 := q5.cell p2
  have HI5 : Hid (USl w5 (.slice ad3 n c3) S) := HI4.out.nextB q5
  have HU5 : Hid (USl w5 (.slice ad n c) S) := HU4.out.nextB q5
  have HQ5 : Hid (Qb W0 w5) := HQ4.out.trans q5
  clear q5 HI4 HU4 HQ4
  go_wp2_with fail
  refine Calls.mono (HMs.out _ _ _ HI5.out) ?_
  rintro e w6 ⟨rfl, q6⟩
  have i0 := q6.cell i0
  have i1 := q6.cell i1
  have i2 := q6.cell i2
  have p0 := q6.cell p0
  have p1 := q6.cell p1
  have p2 := q6.cell p2
  have HI6 : Hid (USl w6 (.slice ad3 n c3) S) := HI5.out.nextB q6
  have HU6 : Hid (USl w6 (.slice ad n c) S) := HU5.out.nextB q6
  have HQ6 : Hid (Qb W0 w6) := HQ5.out.trans q6
  clear q6 HI5 HU5 HQ5
  go_wp2_with fail
  refine Calls.mono (HPl.out _ _ _ HI6.out HU6.out) ?_
  rintro e w7 ⟨rfl, q7⟩
  have p0 := q7.cell p0
  have p1 := q7.cell p1
  have p2 := q7.cell p2
  have HU7 : Hid (USl w7 (.slice ad n c) S) := HU6.out.next q7
  have HQ7 : Hid (Qb W0 w7) := HQ6.out.trans q7.qb
  clear q7 HI6 HU6 HQ6 i0 i1 i2
  go_wp2_with fail
  refine Calls.mono (HMm.out _) ?_
  rintro e w8 ⟨rfl, q8⟩
  have p0 := q8.cell p0
  have p1 := q8.cell p1
  have p2 := q8.cell p2
  have HU8 : Hid (USl w8 (.slice ad n c) S) := HU7.out.next q8
  have HQ8 : Hid (Qb W0 w8) := HQ7.out.trans q8.qb
  clear q8 HU7 HQ7
  by_cases hE : E = 0
  · subst hE
    have HZ1 : Hid (1 ≤ S.length) := HZ.out rfl
    have HDr1 : Hid _ := HDr.out (.slice ad n c) w8 HU8.out (by have := HN.out; omega)
    have HDs1 : Hid (∀ x, Q w8 x → Calls Tryz.prog 22 #[.slice ad n c, .int .i64 num, .int .i64 den] x fun e w' => e = .returned (.tuple #[.int .u32 ((sshV 0 S num den).1 : Nat), .int .i64 (sshV 0 S num den).2]) ∧ Q x w') := fun x q => HDs.out (.slice ad n c) x (HU8.out.next q) (by have := HN.out; omega) HZ1.out
    generalize (srkV 0 S k).1 = v1 at *
    generalize (srkV 0 S k).2 = v2 at *
    generalize (sshV 0 S num den).1 = v3 at *
    generalize (sshV 0 S num den).2 = v4 at *
    clear HMr HMs HMm HDr HDs HZ
    go_wp2_with fail
    refine Calls.mono HDr1.out ?_
    rintro e w9 ⟨rfl, q9⟩
    have p0 := q9.cell p0
    have p1 := q9.cell p1
    have p2 := q9.cell p2
    go_wp2_with fail
    refine Calls.mono (HDs1.out _ q9) ?_
    rintro e w10 ⟨rfl, q10⟩
    have HQ10 : Hid (Qb W0 w10) := HQ8.out.trans (q9.trans q10).qb
    clear q9 q10 HDr1 HDs1 HQ8
    go_wp2_with fail
    go_ret
    exact ⟨by simp, HQ10.out⟩
  · rw [srk_bad hE, ssh_bad hE] at *
    have hne : (E != 0) = true := by simpa using hE
    clear HDr HDs HZ hE
    go_wp2_with fail
    refine Calls.mono (HMm.out _) ?_
    rintro e w9 ⟨rfl, q9⟩
    have HQ9 : Hid (Qb W0 w9) := HQ8.out.trans q9.qb
    clear q9 HQ8
    go_wp2_with fail
    go_ret
    exact ⟨by simp, HQ9.out⟩
end Go.Proofs.YtieojgblamkgoaaGreatDoor
/- The statement StatMeans: its walk. -/
namespace Go.Proofs.YtieojgblamkgoaaGreatDoor
open Go.RowKit
set_option linter.unusedVariables false
set_option linter.unusedSimpArgs false

set_option maxHeartbeats 8000000 in
set_option maxRecDepth 100000 in
theorem smeans_walk (W0 : World) (pw ph : Int) (sv : Value) (S : List Nat) (us : USl W0 sv S) (hSb : ∀ i, S.getD i 0 < 4294967296) (hml : S.length ≤ 9223372036854775807) (hT : Tab W0) :
    Calls Tryz.prog 8 #[.agg #[.int .i64 pw, .int .i64 ph, sv]] W0 fun e w' => e = .returned (.bool true) ∧ Qb W0 w' := by
  obtain ⟨ad, c, rfl⟩ := us.form
  obtain ⟨n, hn⟩ : ∃ n, S.length = n := ⟨_, rfl⟩
  rw [hn] at us hml ⊢
  obtain ⟨w1, hw1⟩ : ∃ w1, W0.alloc (.cells #[.int .i64 pw, .int .i64 ph, .slice ad n c] 26) = w1 := ⟨_, rfl⟩
  have q1 : Q W0 w1 := by rw [← hw1]; exact (Q.refl W0).cells _ _
  have p0 : w1.cell? ⟨W0.heap.size, 0, none⟩ = some (.int .i64 pw) := by rw [← hw1]; simp [go_sem]
  have p1 : w1.cell? ⟨W0.heap.size, 1, none⟩ = some (.int .i64 ph) := by rw [← hw1]; simp [go_sem]
  have p2 : w1.cell? ⟨W0.heap.size, 2, none⟩ = some (.slice ad n c) := by rw [← hw1]; simp [go_sem]
  have HK : Hid (Calls Tryz.prog 9 #[] w1 fun e w' => e = .returned (.bool true) ∧ Qb w1 w') := known16_any w1 (q1.tab hT)
  obtain ⟨E, hE⟩ : ∃ E, chk pw ph n = E := ⟨_, rfl⟩
  have mm0 := fun x => may_any pw ph ad n c x
  simp only [hE] at mm0
  have HMm : Hid _ := mm0
  clear mm0
  have HZ : Hid (E = 0 → ∃ pa pb : Nat, pw = pa ∧ ph = pb ∧ Size pa pb ∧ n = pa * pb) := fun h => by
    obtain ⟨a, b, h1, h2, hs, he⟩ := chk_zero (hE.trans h)
    exact ⟨a, b, h1, h2, hs, he⟩
  have HU : Hid (USl w1 (.slice ad n c) S) := us.next q1
  have HQ1 : Hid (Qb W0 w1) := q1.qb
  have HN : Hid (S.length = n) := hn
  have HB : Hid (∀ i, S.getD i 0 < 4294967296) := hSb
  have HT1 : Hid (Tab w1) := q1.tab hT
  clear us q1 hE hT hSb hml hn
  obtain ⟨bp, hbp⟩ : ∃ bp, W0.heap.size = bp := ⟨_, rfl⟩
  rw [hbp] at p0 p1 p2
  go_enter Tryz.func8, Tryz.ntmps8
  go_wp2_with fail
  clear hw1 hbp
  refine Calls.mono HK.out ?_
  rintro e w2 ⟨rfl, q2⟩
  have p0 := q2.cell p0
  have p1 := q2.cell p1
  have p2 := q2.cell p2
  have HQ2 : Hid (Qb W0 w2) := HQ1.out.trans q2
  have HU2 : Hid (USl w2 (.slice ad n c) S) := HU.out.nextB q2
  have HT2 : Hid (Tab w2) := fun j hj => q2.cell (HT1.out j hj)
  clear q2 HQ1 HU HK HT1
  go_wp2_with fail
  refine Calls.mono (HMm.out _) ?_
  rintro e w3 ⟨rfl, q3⟩
  have p0 := q3.cell p0
  have p1 := q3.cell p1
  have p2 := q3.cell p2
  have HQ3 : Hid (Qb W0 w3) := HQ2.out.trans q3.qb
  have HU3 : Hid (USl w3 (.slice ad n c) S) := HU2.out.next q3
  have HT3 : Hid (Tab w3) := q3.tab HT2.out
  clear q3 HQ2 HU2 HMm HT2
  by_cases hE : E = 0
  · subst hE
    obtain ⟨pa, pb, rfl, rfl, hsz, hnn⟩ := HZ.out rfl
    have hpos : 1 ≤ n := by rw [hnn]; exact hsz.pos
    have HNN : Hid (n = pa * pb) := hnn
    clear hnn
    clear HZ
    by_cases h6 : (3000 : Int) < (n : Int)
    · go_wp2_with fail
      go_ret
      exact ⟨rfl, HQ3.out⟩
    · have hn6 : n ≤ 3000 := by omega
      have KC := hcopy_al2 w3 pa pb ad n c S HN.out HU3.out (by omega)
      have HKC : Hid _ := KC
      clear KC
      go_wp2_with fail
      refine Calls.mono HKC.out ?_
      rintro e w4 ⟨ad4, c4, rfl, u4, q4⟩
      have hNn := HN.out
      subst hNn
      obtain ⟨g4, o4, cap4, hv4, hcap4, hI4⟩ := u4.some (by omega)
      injection hv4 with hv1 hv2 hv3
      subst hv1 hv3
      clear hv2
      have hPl : Pl w4 g4 o4 S.length c4 pa pb S := ⟨hsz, HNN.out, rfl, hcap4, hI4⟩
      have KA := all_any pa pb g4 o4 c4 3 S (.slice none 0 0) [] false w4 (by decide) (by decide) hPl (Or.inr ⟨_, _, rfl, rfl⟩) HB.out (by decide)
      have HKA : Hid _ := KA
      have p0 := q4.cell p0
      have p1 := q4.cell p1
      have p2 := q4.cell p2
      have HQ4 : Hid (Qb W0 w4) := HQ3.out.trans q4.qb
      have HU4 : Hid (USl w4 (.slice ad S.length c) S) := HU3.out.next q4
      have HT4 : Hid (Tab w4) := q4.tab HT3.out
      clear KA hPl hI4 u4 q4 HQ3 HU3 HT3 HKC
      go_wp2_with fail
      refine Calls.mono HKA.out ?_
      rintro e w5 ⟨P, A, H, kc, L, rfl, hS, hperm, hlow, q5⟩
      have p0 := q5.cell p0
      have p1 := q5.cell p1
      have p2 := q5.cell p2
      have HQ5 : Hid (Qb W0 w5) := HQ4.out.trans q5.qb
      have HU5 : Hid (USl w5 (.slice ad S.length c) S) := HU4.out.next q5
      have HT5 : Hid (Tab w5) := q5.tab HT4.out
      have HS5 : Hid (StAt w5 P A H 3 kc L) := hS
      have HPe : Hid (L.Perm S) := hperm
      clear hS hperm hlow q5 HQ4 HU4 HT4 HKA
      go_wp2_with fail
      go_loopg [4] S.length (fun m s4 wr => ∃ i : Nat, s4 = .int .i64 (i : Int) ∧ i + m = S.length ∧ Hid ((∀ j, j < i → rung32 (S.getD j 0) < 2139095040) ∧ wr = w5))
      case atStart => exact ⟨0, rfl, by omega, fun j hj => absurd hj (Nat.not_lt_zero _), rfl⟩
      case round =>
        obtain ⟨i, rfl, hi, HX⟩ := hrel
        obtain ⟨hfin, rfl⟩ := HX.out
        clear HX
        by_cases hlt : i < S.length
        · obtain ⟨g, o, cap', hsl, hcap', hI⟩ := HU5.out.some (by omega)
          injection hsl with hs1 hs2 hs3
          subst hs1 hs3
          clear hs2
          have hc := hI i hlt
          have hx := HB.out i
          have HFi : Hid (∀ j, j < i → rung32 (S.getD j 0) < 2139095040) := hfin
          have HGi : Hid (S.getD i 0 / 8388608 % 256 ≠ 255 → ∀ j, j < i + 1 → rung32 (S.getD j 0) < 2139095040) := fun hne j hj => by
            rcases Nat.lt_or_ge j i with k | k
            · exact HFi.out j k
            · obtain rfl : j = i := by omega
              have := HB.out j
              unfold rung32
              omega
          generalize S.getD i 0 = s at *
          have eb : bits .and .u32 ((s : Int) / 8388608) 255 = ((s / 8388608 % 256 : Nat) : Int) := by
            rw [exp_bits (by omega) (by omega)]
            unfold expV
            omega
          clear hI hcap' hfin
          by_cases h255 : s / 8388608 % 256 = 255
          · have eb2 : bits .and .u32 ((s : Int) / 8388608) 255 = 255 := by rw [eb, h255]; rfl
            clear eb
            go_wp2_with fail
            go_ret
            exact ⟨rfl, HQ5.out⟩
          · have hbe : (((s / 8388608 % 256 : Nat) : Int) == 255) = false := by rw [beq_eq_false_iff_ne]; omega
            have HG2 := HGi.out h255
            have HG3 : Hid _ := HG2
            clear HGi HG2 HFi
            generalize s / 8388608 % 256 = ex at *
            go_wp2_with fail
            go_roundg (S.length - (i + 1))
            case measure => go_light; omega
            case rel => go_light; exact ⟨i + 1, by go_num, by omega, HG3.out, rfl⟩
        · obtain rfl : i = S.length := by omega
          have hge : ¬ (S.length : Int) < (S.length : Int) := by omega
          have hLen : L.length = S.length := HPe.out.length_eq
          have hLf : ∀ s ∈ L, s < 4294967296 ∧ rung32 s < 2139095040 := fun s hs => by
            have hs' := HPe.out.mem_iff.1 hs
            obtain ⟨j, hj, e⟩ := List.getElem_of_mem hs'
            have e2 : S.getD j 0 = s := by rw [List.getD_eq_getElem?_getD, List.getElem?_eq_getElem hj]; exact e
            exact ⟨by rw [← e2]; exact HB.out j, by rw [← e2]; exact hfin j hj⟩
          obtain ⟨m, a, b, hm, he, o1, o2, hone⟩ := mean_told hLf (by omega)
          have KM := smean_any P A H 3 kc L _ HS5.out (fun s hs => (hLf s hs).1) (by omega) HT5.out
          have KE : ∀ x, Q wr x → Calls Tryz.prog 31 #[.pointer (some ⟨P, 0, none⟩)] x fun e w' => e = .returned (.tuple #[.int .u32 (a : Int), .int .u32 (b : Int), .int .i64 0]) ∧ Q x w' := fun x q => by
            have := sends_any P A H 3 kc L x (HS5.out.next q) (fun s hs => (hLf s hs).1)
            rw [he] at this
            exact this
          rw [hm] at KM
          have HKM : Hid _ := KM
          have HKE : Hid _ := KE
          have HOne : Hid (S.length = 1 → m = S.getD 0 0) := fun h1 => by
            have hp := HPe.out
            have hl1 : L.length = 1 := by omega
            have e1 := hone hl1
            match L, S, hl1, h1, hp with
            | [x], [y], _, _, hp =>
              have := List.perm_singleton.1 hp
              injection this with e
              rw [e1]; exact e
          have lf := f32from
          clear KM KE hm he hone hLf hLen hfin
          have o1' : (FloatKind.f32.format.order m a == some Ordering.gt || FloatKind.f32.format.order m a == some Ordering.eq) = true := o1
          have o2' : (FloatKind.f32.format.order m b == some Ordering.lt || FloatKind.f32.format.order m b == some Ordering.eq) = true := o2
          clear o1 o2
          go_wp2_with fail
          refine Calls.mono HKM.out ?_
          rintro e w6 ⟨rfl, q6⟩
          have p2 := q6.cell p2
          have HQ6 : Hid (Qb W0 w6) := HQ5.out.trans q6.qb
          have HU6 : Hid (USl w6 (.slice ad S.length c) S) := HU5.out.next q6
          have KE6 := HKE.out _ q6
          clear q6 HKM HKE HQ5 HS5 HT5
          go_wp2_with fail
          refine Calls.mono KE6 ?_
          rintro e w7 ⟨rfl, q7⟩
          have p2 := q7.cell p2
          have HQ7 : Hid (Qb W0 w7) := HQ6.out.trans q7.qb
          have HU7 : Hid (USl w7 (.slice ad S.length c) S) := HU6.out.next q7
          clear q7 KE6 HQ6 HU6
          by_cases h1 : S.length = 1
          · obtain ⟨g, o, cap', hsl, hcap', hI⟩ := HU7.out.some (by omega)
            injection hsl with hs1 hs2 hs3
            subst hs1 hs3
            clear hs2
            have c0 := hI 0 (by omega)
            rw [Nat.add_zero, ← HOne.out h1] at c0
            have hne1 : ((S.length : Int) != 1) = false := by simp; omega
            clear hI hcap' HOne
            go_wp2_with fail
            go_ret
            exact ⟨by simp, HQ7.out⟩
          · have hne1 : ((S.length : Int) != 1) = true := by simp; omega
            clear HOne
            go_wp2_with fail
            go_ret
            exact ⟨by simp, HQ7.out⟩
  · have hne : (E != 0) = true := by simpa using hE
    clear HZ hE
    go_wp2_with fail
    go_ret
    exact ⟨rfl, HQ3.out⟩
end Go.Proofs.YtieojgblamkgoaaGreatDoor
