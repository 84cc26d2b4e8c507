/- The statement StatParts: its walk. -/
import Derived.Test.YtieojgblamkgoaaGreatDoorGb4426ebb
import Derived.Test.YtieojgblamkgoaaGreatDoorG83f0b3cd
namespace Go.Proofs.YtieojgblamkgoaaGreatDoor
open Go.RowKit
set_option linter.unusedVariables false
set_option linter.unusedSimpArgs false

theorem ISl.nextB {w w' : World} {v : Value} {l : List Int} (h : ISl w v l) (q : Qb w w') : ISl w' v l := by
  rcases h with ⟨g, o, cap, h1, h2⟩ | h
  · exact Or.inl ⟨g, o, cap, h1, fun i hi => q.cell (h2 i hi)⟩
  · exact Or.inr h
set_option maxHeartbeats 8000000 in
set_option maxRecDepth 100000 in
theorem sparts_walk (W0 : World) (pw ph b : Int) (sv cv : Value) (S : List Nat) (C : List Int) (us : USl W0 sv S) (ic : ISl W0 cv C) (hSb : ∀ i, S.getD i 0 < 4294967296) (hml : S.length ≤ 9223372036854775807) (hT : Tab W0) :
    Calls Tryz.prog 6 #[.agg #[.int .i64 pw, .int .i64 ph, sv], .int .i64 b, cv] W0 fun e w' => e = .returned (.bool true) ∧ Qb W0 w' := by
  obtain ⟨ad, c, rfl⟩ := us.form
  obtain ⟨ca, cc, rfl⟩ := ic.form
  obtain ⟨n, hn⟩ : ∃ n, S.length = n := ⟨_, rfl⟩
  obtain ⟨cn, hcn⟩ : ∃ cn, C.length = cn := ⟨_, rfl⟩
  rw [hn] at us hml ⊢
  rw [hcn] at ic ⊢
  obtain ⟨w1, hw1⟩ : ∃ w1, W0.alloc (.cells #[.int .i64 pw, .int .i64 ph, .slice ad n c] 26) = w1 := ⟨_, rfl⟩
  have q1 : Q W0 w1 := by rw [← hw1]; exact (Q.refl W0).cells _ _
  have p0 : w1.cell? ⟨W0.heap.size, 0, none⟩ = some (.int .i64 pw) := by rw [← hw1]; simp [go_sem]
  have p1 : w1.cell? ⟨W0.heap.size, 1, none⟩ = some (.int .i64 ph) := by rw [← hw1]; simp [go_sem]
  have p2 : w1.cell? ⟨W0.heap.size, 2, none⟩ = some (.slice ad n c) := by rw [← hw1]; simp [go_sem]
  have HK : Hid (Calls Tryz.prog 9 #[] w1 fun e w' => e = .returned (.bool true) ∧ Qb w1 w') := known16_any w1 (q1.tab hT)
  obtain ⟨E, hE⟩ : ∃ E, chk pw ph n = E := ⟨_, rfl⟩
  have mm0 := fun x => may_any pw ph ad n c x
  simp only [hE] at mm0
  have HMm : Hid _ := mm0
  clear mm0
  have HZ : Hid (E = 0 → ∃ pa pb : Nat, pw = pa ∧ ph = pb ∧ Size pa pb ∧ n = pa * pb) := fun h => by
    obtain ⟨a, b, h1, h2, hs, he⟩ := chk_zero (hE.trans h)
    exact ⟨a, b, h1, h2, hs, he⟩
  have HU : Hid (USl w1 (.slice ad n c) S) := us.next q1
  have HI : Hid (ISl w1 (.slice ca cn cc) C) := ic.next q1
  have HQ1 : Hid (Qb W0 w1) := q1.qb
  have HN : Hid (S.length = n) := hn
  have HCn : Hid (C.length = cn) := hcn
  have HB : Hid (∀ i, S.getD i 0 < 4294967296) := hSb
  have HT1 : Hid (Tab w1) := q1.tab hT
  clear us q1 hE hT hSb hml hn hcn ic
  obtain ⟨bp, hbp⟩ : ∃ bp, W0.heap.size = bp := ⟨_, rfl⟩
  rw [hbp] at p0 p1 p2
  go_enter Tryz.func6, Tryz.ntmps6
  go_wp2_with fail
  clear hw1 hbp
  refine Calls.mono HK.out ?_
  rintro e w2 ⟨rfl, q2⟩
  have p0 := q2.cell p0
  have p1 := q2.cell p1
  have p2 := q2.cell p2
  have HQ2 : Hid (Qb W0 w2) := HQ1.out.trans q2
  have HU2 : Hid (USl w2 (.slice ad n c) S) := HU.out.nextB q2
  have HI2 : Hid (ISl w2 (.slice ca cn cc) C) := HI.out.nextB q2
  have HT2 : Hid (Tab w2) := fun j hj => q2.cell (HT1.out j hj)
  clear q2 HQ1 HU HK HT1 HI
  go_wp2_with fail
  refine Calls.mono (HMm.out _) ?_
  rintro e w3 ⟨rfl, q3⟩
  have p0 := q3.cell p0
  have p1 := q3.cell p1
  have p2 := q3.cell p2
  have HQ3 : Hid (Qb W0 w3) := HQ2.out.trans q3.qb
  have HU3 : Hid (USl w3 (.slice ad n c) S) := HU2.out.next q3
  have HI3 : Hid (ISl w3 (.slice ca cn cc) C) := HI2.out.next q3
  have HT3 : Hid (Tab w3) := q3.tab HT2.out
  clear q3 HQ2 HU2 HMm HT2 HI2
  by_cases hE : E = 0
  · subst hE
    obtain ⟨pa, pb, rfl, rfl, hsz, hnn⟩ := HZ.out rfl
    have hpos : 1 ≤ n := by rw [hnn]; exact hsz.pos
    have HNN : Hid (n = pa * pb) := hnn
    clear hnn HZ
    by_cases h6 : (3000 : Int) < (n : Int)
    · go_wp2_with fail
      go_ret
      exact ⟨rfl, HQ3.out⟩
    by_cases h7 : b < 1
    · go_wp2_with fail
      go_ret
      exact ⟨rfl, HQ3.out⟩
    by_cases h8 : 12 < b
    · go_wp2_with fail
      go_ret
      exact ⟨rfl, HQ3.out⟩
    by_cases h9 : (100 : Int) < (cn : Int)
    · go_wp2_with fail
      go_ret
      exact ⟨rfl, HQ3.out⟩
    obtain ⟨B, rfl⟩ : ∃ B : Nat, b = (B : Int) := ⟨b.toNat, by omega⟩
    have hn6 : n ≤ 3000 := by omega
    have hNn := HN.out
    subst hNn
    have hCc := HCn.out
    subst hCc
    have HM : Hid (∀ s ∈ S, s < 4294967296) := mem_of_getD HB.out
    -- a copy, and all of it
    have HAll : Hid (∀ (x : World) (cv : Value) (CC : List Int) (bk : Bool), USl x (.slice ad S.length c) S → ISl x cv CC → CC.length ≤ 1000000 → ∀ (y : World) (ad' : Option Addr) (c' : Nat), Q x y → USl y (.slice ad' S.length c') S → Calls Tryz.prog 27 #[.agg #[.int .i64 (pa : Int), .int .i64 (pb : Int), .slice ad' S.length c'], .int .i64 (B : Int), cv, .bool bk] y fun e w' => ∃ P, e = .returned (.pointer (some ⟨P, 0, none⟩)) ∧ (∃ A H kc L, StAt w' P A H B kc L ∧ L.Perm S) ∧ Q y w') := fun x cv CC bk _ hc hl y ad' c' q u => by
      obtain ⟨g4, o4, cap4, hv4, hcap4, hI4⟩ := u.some (by omega)
      injection hv4 with hv1 hv2 hv3
      subst hv1 hv3
      refine (all_any pa pb g4 o4 c' B S cv CC bk y (by omega) (by omega) ⟨hsz, HNN.out, rfl, hcap4, hI4⟩ (hc.next q) HB.out hl).mono ?_
      rintro e w' ⟨P, A, H, kc, L, rfl, hS, hp, _, hq⟩
      exact ⟨P, rfl, ⟨A, H, kc, L, hS, hp⟩, hq⟩
    have HCp : Hid _ := fun x u => hcopy_al2 x pa pb ad S.length c S rfl u (by omega)
    go_wp2_with fail
    refine Calls.mono (HCp.out _ HU3.out) ?_
    rintro e w4 ⟨ad4, c4, rfl, u4, q4⟩
    have KA := HAll.out w3 (.slice none 0 0) [] false HU3.out (Or.inr ⟨_, _, rfl, rfl⟩) (by decide) w4 ad4 c4 q4 u4
    have HKA : Hid _ := KA
    clear KA u4
    go_wp2_with fail
    refine Calls.mono HKA.out ?_
    rintro e w5 ⟨P1, rfl, hS1, q5⟩
    have q35 := q4.trans q5
    have p0 := q35.cell p0
    have p1 := q35.cell p1
    have p2 := q35.cell p2
    have HQ5 : Hid (Qb W0 w5) := HQ3.out.trans q35.qb
    have HU5 : Hid (USl w5 (.slice ad S.length c) S) := HU3.out.next q35
    have HI5 : Hid (ISl w5 (.slice ca C.length cc) C) := HI3.out.next q35
    have HT5 : Hid (Tab w5) := q35.tab HT3.out
    have HS1 : Hid (∃ A H kc L, StAt w5 P1 A H B kc L ∧ L.Perm S) := hS1
    clear q35 q4 q5 hS1 HKA HQ3 HU3 HI3 HT3
    go_wp2_with fail
    refine Calls.mono (HCp.out _ HU5.out) ?_
    rintro e w6 ⟨ad6, c6, rfl, u6, q6⟩
    have KA := HAll.out w5 (.slice ca C.length cc) C false HU5.out HI5.out (by omega) w6 ad6 c6 q6 u6
    have HKA : Hid _ := KA
    clear KA u6
    go_wp2_with fail
    refine Calls.mono HKA.out ?_
    rintro e w7 ⟨P2, rfl, hS2, q7⟩
    have q57 := q6.trans q7
    have p0 := q57.cell p0
    have p1 := q57.cell p1
    have p2 := q57.cell p2
    have HQ7 : Hid (Qb W0 w7) := HQ5.out.trans q57.qb
    have HU7 : Hid (USl w7 (.slice ad S.length c) S) := HU5.out.next q57
    have HI7 : Hid (ISl w7 (.slice ca C.length cc) C) := HI5.out.next q57
    have HT7 : Hid (Tab w7) := q57.tab HT5.out
    have HS2 : Hid (∃ A H kc L, StAt w7 P2 A H B kc L ∧ L.Perm S) := hS2
    have HS1b : Hid (∃ A H kc L, StAt w7 P1 A H B kc L ∧ L.Perm S) := by
      obtain ⟨A, H, kc, L, h, hp⟩ := HS1.out
      exact ⟨A, H, kc, L, h.next q57, hp⟩
    clear q57 q6 q7 hS2 HKA HQ5 HU5 HI5 HT5 HS1
    go_wp2_with fail
    refine Calls.mono (HCp.out _ HU7.out) ?_
    rintro e w8 ⟨ad8, c8, rfl, u8, q8⟩
    have KA := HAll.out w7 (.slice ca C.length cc) C true HU7.out HI7.out (by omega) w8 ad8 c8 q8 u8
    have HKA : Hid _ := KA
    clear KA u8
    go_wp2_with fail
    refine Calls.mono HKA.out ?_
    rintro e w9 ⟨P3, rfl, hS3, q9⟩
    have q79 := q8.trans q9
    have HQ9 : Hid (Qb W0 w9) := HQ7.out.trans q79.qb
    have HT9 : Hid (Tab w9) := q79.tab HT7.out
    have HSa : Hid (∀ x, Q w9 x → ∀ P', (P' = P2 ∨ P' = P3) → Calls Tryz.prog 28 #[.pointer (some ⟨P1, 0, none⟩), .pointer (some ⟨P', 0, none⟩)] x fun e w' => e = .returned (.bool true) ∧ Q x w') := fun x q P' hP => by
      obtain ⟨A, H, kc, L, h, hp⟩ := HS1b.out
      have h := (h.next q79).next q
      have hm : ∀ s ∈ L, s < 4294967296 := fun s hs => HM.out s (hp.mem_iff.1 hs)
      have hl : L.length ≤ 65536 := by rw [hp.length_eq]; omega
      rcases hP with rfl | rfl
      · obtain ⟨A', H', kc', L', h', hp'⟩ := HS2.out
        exact same_any P1 A H B kc P' A' H' kc' L L' x h ((h'.next q79).next q) (hp'.trans hp.symm) hm hl (q.tab HT9.out)
      · obtain ⟨A', H', kc', L', h', hp'⟩ := hS3
        exact same_any P1 A H B kc P' A' H' kc' L L' x h (h'.next q) (hp'.trans hp.symm) hm hl (q.tab HT9.out)
    clear q79 q8 q9 hS3 HKA HQ7 HU7 HI7 HT7 HS1b HS2 HT9 p0 p1 p2 HAll HCp
    go_wp2_with fail
    refine Calls.mono (HSa.out _ (Q.refl _) P2 (Or.inl rfl)) ?_
    rintro e w10 ⟨rfl, q10⟩
    have KS := HSa.out _ q10 P3 (Or.inr rfl)
    have HKS : Hid _ := KS
    have HQ10 : Hid (Qb W0 w10) := HQ9.out.trans q10.qb
    clear KS q10 HQ9 HSa
    go_wp2_with fail
    refine Calls.mono HKS.out ?_
    rintro e w11 ⟨rfl, q11⟩
    have HQ11 : Hid (Qb W0 w11) := HQ10.out.trans q11.qb
    clear q11 HKS HQ10
    go_wp2_with fail
    go_ret
    exact ⟨rfl, HQ11.out⟩
  · have hne : (E != 0) = true := by simpa using hE
    clear HZ hE
    go_wp2_with fail
    go_ret
    exact ⟨rfl, HQ3.out⟩
end Go.Proofs.YtieojgblamkgoaaGreatDoor
