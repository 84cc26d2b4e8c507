/- The statement StatRanks: its walk. -/
import Derived.Test.YtieojgblamkgoaaGreatDoorG4d0bf57b
namespace Go.Proofs.YtieojgblamkgoaaGreatDoor
open Go.RowKit
set_option linter.unusedVariables false
set_option linter.unusedSimpArgs false

/-- A copy, empty or not. -/
theorem hcopy_al2 (w : World) (pw ph : Int) (ad : Option Addr) (n c : Nat) (S : List Nat) (hS : S.length = n) (hU : USl w (.slice ad n c) S) (h2 : n ≤ 1000000) :
    Calls Tryz.prog 16 #[.agg #[.int .i64 pw, .int .i64 ph, .slice ad n c]] w fun e w' => ∃ ad' c', e = .returned (.agg #[.int .i64 pw, .int .i64 ph, .slice ad' n c']) ∧ USl w' (.slice ad' n c') S ∧ Q w w' := by
  rcases Nat.lt_or_ge 0 n with h1 | h1
  · obtain ⟨g, o, cap, hv, hc, hI⟩ := hU.some (by omega)
    injection hv with hv1 _ _
    subst hv1
    refine (hcopy_some w pw ph g o n c S hS hI h1 h2).mono ?_
    rintro e w' ⟨v, rfl, b, cap', rfl, hc', hb, hO⟩
    refine ⟨_, _, rfl, ?_, hO.q⟩
    have := hO.cells.usl (cap := cap') (by omega)
    rw [hS] at this
    exact this
  · obtain rfl : n = 0 := by omega
    obtain rfl : S = [] := List.length_eq_zero_iff.1 hS
    refine (hcopy_none w pw ph ad c).mono ?_
    rintro e w' ⟨v, rfl, rfl, q⟩
    exact ⟨_, _, rfl, Or.inr ⟨_, _, rfl, rfl⟩, q⟩
theorem srk_bad {E : Int} (h : E ≠ 0) (S : List Nat) (k : Int) : srkV E S k = (0, E) := if_pos h
theorem ssh_bad {E : Int} (h : E ≠ 0) (S : List Nat) (a b : Int) : sshV E S a b = (0, E) := if_pos h
set_option maxHeartbeats 8000000 in
set_option maxRecDepth 100000 in
theorem sranks_walk (W0 : World) (pw ph k num den : Int) (sv : Value) (S : List Nat) (us : USl W0 sv S) (hSb : ∀ i, S.getD i 0 < 4294967296) (hml : S.length ≤ 9223372036854775807) (hT : Tab W0) :
    Calls Tryz.prog 4 #[.agg #[.int .i64 pw, .int .i64 ph, sv], .int .i64 k, .int .i64 num, .int .i64 den] W0 fun e w' => e = .returned (.bool true) ∧ Qb W0 w' := by
  obtain ⟨ad, c, rfl⟩ := us.form
  obtain ⟨n, hn⟩ : ∃ n, S.length = n := ⟨_, rfl⟩
  rw [hn] at us hml ⊢
  obtain ⟨w1, hw1⟩ : ∃ w1, W0.alloc (.cells #[.int .i64 pw, .int .i64 ph, .slice ad n c] 26) = w1 := ⟨_, rfl⟩
  have q1 : Q W0 w1 := by rw [← hw1]; exact (Q.refl W0).cells _ _
  have p0 : w1.cell? ⟨W0.heap.size, 0, none⟩ = some (.int .i64 pw) := by rw [← hw1]; simp [go_sem]
  have p1 : w1.cell? ⟨W0.heap.size, 1, none⟩ = some (.int .i64 ph) := by rw [← hw1]; simp [go_sem]
  have p2 : w1.cell? ⟨W0.heap.size, 2, none⟩ = some (.slice ad n c) := by rw [← hw1]; simp [go_sem]
  have HK : Hid (Calls Tryz.prog 9 #[] w1 fun e w' => e = .returned (.bool true) ∧ Qb w1 w') := known16_any w1 (q1.tab hT)
  have HCy : Hid _ := fun x u h2 => hcopy_al2 x pw ph ad n c S hn u h2
  have HPl : Hid _ := fun ad' c' x u u' => hplanes_yes pw ph ad' ad n c' c S x u u' (by omega)
  obtain ⟨E, hE⟩ : ∃ E, chk pw ph n = E := ⟨_, rfl⟩
  have mr0 := fun ad' c' x u => srank_any pw ph ad' n c' S k x u hn hSb hml
  have ms0 := fun ad' c' x u => sshare_any pw ph ad' n c' S num den x u hn hSb hml
  have mm0 := fun x => may_any pw ph ad n c x
  simp only [hE] at mr0 ms0 mm0
  have HMr : Hid _ := mr0
  have HMs : Hid _ := ms0
  have HMm : Hid _ := mm0
  clear mr0 ms0 mm0
  have HZ : Hid (E = 0 → 1 ≤ S.length) := fun h => by
    obtain ⟨a, b, _, _, hs, he⟩ := chk_zero (hE.trans h)
    have := hs.pos
    omega
  have HDr : Hid _ := fun v x u h2 => s16rank_any v S k x u hSb h2
  have HDs : Hid _ := fun v x u h2 h1 => s16share_any v S num den x u hSb h2 h1
  have HU : Hid (USl w1 (.slice ad n c) S) := us.next q1
  have HQ1 : Hid (Qb W0 w1) := q1.qb
  have HN : Hid (S.length = n) := hn
  clear us q1 hE hT hSb hml hn
  obtain ⟨bp, hbp⟩ : ∃ bp, W0.heap.size = bp := ⟨_, rfl⟩
  rw [hbp] at p0 p1 p2
  go_enter Tryz.func4, Tryz.ntmps4
  go_wp2_with fail
  clear hw1 hbp
  refine Calls.mono HK.out ?_
  rintro e w2 ⟨rfl, q2⟩
  have p0 := q2.cell p0
  have p1 := q2.cell p1
  have p2 := q2.cell p2
  have HQ2 : Hid (Qb W0 w2) := HQ1.out.trans q2
  have HU2 : Hid (USl w2 (.slice ad n c) S) := HU.out.nextB q2
  clear q2 HQ1 HU HK
  by_cases h6 : (600 : Int) < (n : Int)
  · go_wp2_with fail
    go_ret
    exact ⟨rfl, HQ2.out⟩
  have hn6 : n ≤ 600 := by omega
  go_wp2_with fail
  refine Calls.mono (HCy.out _ HU2.out (by omega)) ?_
  rintro e w3 ⟨ad3, c3, rfl, u3, q3⟩
  obtain ⟨w4, hw4⟩ : ∃ w4, w3.alloc (.cells #[.int .i64 pw, .int .i64 ph, .slice ad3 n c3] 26) = w4 := ⟨_, rfl⟩
  have q34 : Q w3 w4 := by rw [← hw4]; exact (Q.refl w3).cells _ _
  have q24 : Q w2 w4 := q3.trans q34
  have i0 : w4.cell? ⟨w3.heap.size, 0, none⟩ = some (.int .i64 pw) := by rw [← hw4]; simp [go_sem]
  have i1 : w4.cell? ⟨w3.heap.size, 1, none⟩ = some (.int .i64 ph) := by rw [← hw4]; simp [go_sem]
  have i2 : w4.cell? ⟨w3.heap.size, 2, none⟩ = some (.slice ad3 n c3) := by rw [← hw4]; simp [go_sem]
  have HI4 : Hid (USl w4 (.slice ad3 n c3) S) := u3.next q34
  have HU4 : Hid (USl w4 (.slice ad n c) S) := HU2.out.next q24
  have HQ4 : Hid (Qb W0 w4) := HQ2.out.trans q24.qb
  have p0 := q24.cell p0
  have p1 := q24.cell p1
  have p2 := q24.cell p2
  clear q3 q34 q24 u3 HU2 HQ2
  go_wp2_with fail
  clear hw4
  generalize w3.heap.size = bi at *
  refine Calls.mono (HMr.out _ _ _ HI4.out) ?_
  rintro e w5 ⟨rfl, q5⟩
  have i0 := q5.cell i0
  have i1 := q5.cell i1
  have i2 := q5.cell i2
  have p0 := q5.cell p0
  have p1 := q5.cell p1
  have p2 := q5.cell p2
  have HI5 : Hid (USl w5 (.slice ad3 n c3) S) := HI4.out.nextB q5
  have HU5 : Hid (USl w5 (.slice ad n c) S) := HU4.out.nextB q5
  have HQ5 : Hid (Qb W0 w5) := HQ4.out.trans q5
  clear q5 HI4 HU4 HQ4
  go_wp2_with fail
  refine Calls.mono (HMs.out _ _ _ HI5.out) ?_
  rintro e w6 ⟨rfl, q6⟩
  have i0 := q6.cell i0
  have i1 := q6.cell i1
  have i2 := q6.cell i2
  have p0 := q6.cell p0
  have p1 := q6.cell p1
  have p2 := q6.cell p2
  have HI6 : Hid (USl w6 (.slice ad3 n c3) S) := HI5.out.nextB q6
  have HU6 : Hid (USl w6 (.slice ad n c) S) := HU5.out.nextB q6
  have HQ6 : Hid (Qb W0 w6) := HQ5.out.trans q6
  clear q6 HI5 HU5 HQ5
  go_wp2_with fail
  refine Calls.mono (HPl.out _ _ _ HI6.out HU6.out) ?_
  rintro e w7 ⟨rfl, q7⟩
  have p0 := q7.cell p0
  have p1 := q7.cell p1
  have p2 := q7.cell p2
  have HU7 : Hid (USl w7 (.slice ad n c) S) := HU6.out.next q7
  have HQ7 : Hid (Qb W0 w7) := HQ6.out.trans q7.qb
  clear q7 HI6 HU6 HQ6 i0 i1 i2
  go_wp2_with fail
  refine Calls.mono (HMm.out _) ?_
  rintro e w8 ⟨rfl, q8⟩
  have p0 := q8.cell p0
  have p1 := q8.cell p1
  have p2 := q8.cell p2
  have HU8 : Hid (USl w8 (.slice ad n c) S) := HU7.out.next q8
  have HQ8 : Hid (Qb W0 w8) := HQ7.out.trans q8.qb
  clear q8 HU7 HQ7
  by_cases hE : E = 0
  · subst hE
    have HZ1 : Hid (1 ≤ S.length) := HZ.out rfl
    have HDr1 : Hid _ := HDr.out (.slice ad n c) w8 HU8.out (by have := HN.out; omega)
    have HDs1 : Hid (∀ x, Q w8 x → Calls Tryz.prog 22 #[.slice ad n c, .int .i64 num, .int .i64 den] x fun e w' => e = .returned (.tuple #[.int .u32 ((sshV 0 S num den).1 : Nat), .int .i64 (sshV 0 S num den).2]) ∧ Q x w') := fun x q => HDs.out (.slice ad n c) x (HU8.out.next q) (by have := HN.out; omega) HZ1.out
    generalize (srkV 0 S k).1 = v1 at *
    generalize (srkV 0 S k).2 = v2 at *
    generalize (sshV 0 S num den).1 = v3 at *
    generalize (sshV 0 S num den).2 = v4 at *
    clear HMr HMs HMm HDr HDs HZ
    go_wp2_with fail
    refine Calls.mono HDr1.out ?_
    rintro e w9 ⟨rfl, q9⟩
    have p0 := q9.cell p0
    have p1 := q9.cell p1
    have p2 := q9.cell p2
    go_wp2_with fail
    refine Calls.mono (HDs1.out _ q9) ?_
    rintro e w10 ⟨rfl, q10⟩
    have HQ10 : Hid (Qb W0 w10) := HQ8.out.trans (q9.trans q10).qb
    clear q9 q10 HDr1 HDs1 HQ8
    go_wp2_with fail
    go_ret
    exact ⟨by simp, HQ10.out⟩
  · rw [srk_bad hE, ssh_bad hE] at *
    have hne : (E != 0) = true := by simpa using hE
    clear HDr HDs HZ hE
    go_wp2_with fail
    refine Calls.mono (HMm.out _) ?_
    rintro e w9 ⟨rfl, q9⟩
    have HQ9 : Hid (Qb W0 w9) := HQ8.out.trans q9.qb
    clear q9 HQ8
    go_wp2_with fail
    go_ret
    exact ⟨by simp, HQ9.out⟩
end Go.Proofs.YtieojgblamkgoaaGreatDoor
