/- The statement SumsOrder: its walk. -/
import Derived.Test.YtnjagokojdpgpabDoorGb1389c5e
namespace Go.Proofs.YtnjagokojdpgpabDoor
open Go.RowKit
set_option linter.unusedVariables false
set_option linter.unusedSimpArgs false

set_option maxHeartbeats 4000000 in
set_option maxRecDepth 100000 in
theorem order_walk (v : Value) (S : List Nat) (k cut : Int) (x : Nat) (w : World) (hv : USl w v S) (hb : ∀ i, S.getD i 0 < 4294967296) (hn : S.length ≤ 9223372036854775807) (hx : x < 4294967296) (hT : Tab w) : Calls Tryd.prog 3 #[v, .int .i64 k, .int .i64 cut, .int .u32 (x : Int)] w fun e w' => e = .returned (.bool true) ∧ Q w w' := by
  obtain ⟨a, c, rfl⟩ := hv.form
  have HV : Hid (USl w (.slice a S.length c) S) := hv
  have HT : Hid (Tab w) := hT
  have HB : Hid (∀ i, S.getD i 0 < 4294967296) := hb
  clear hv hT hb
  by_cases hm : 2000 < S.length
  · have hm' : (2000 : Int) < S.length := by omega
    clear hm
    go_enter Tryd.func3, Tryd.ntmps3
    go_wp2_with fail
    refine (known_any _ HT.out).mono ?_
    rintro e w1 ⟨rfl, q1⟩
    go_wp2_with fail
    go_ret
    exact ⟨rfl, q1⟩
  · have hm' : ¬ (2000 : Int) < S.length := by omega
    go_enter Tryd.func3, Tryd.ntmps3
    go_wp2_with fail
    refine (known_any _ HT.out).mono ?_
    rintro e w1 ⟨rfl, q1⟩
    have HQ1 : Hid (Q w w1) := q1
    clear q1
    go_wp2_with fail
    refine (shuffled_any _ S _ (HV.out.next HQ1.out) (by omega) k).mono ?_
    rintro e w2 ⟨la, lc, S', rfl, hP, hcase, q2⟩
    have HP : Hid (S'.Perm S) := hP
    have HQ2 : Hid (Q w w2) := HQ1.out.trans q2
    have HB' : Hid (∀ i, S'.getD i 0 < 4294967296) := getD_lt_perm hP HB.out
    have HLe : Hid (S'.length = S.length) := hP.length_eq
    clear hP q2
    go_wp2_with fail
    refine (exact_any0 _ S _ (HV.out.next HQ2.out) HB.out (by omega) (HQ2.out.tab HT.out)).mono ?_
    rintro e w3 ⟨rfl, q3⟩
    have HQ3 : Hid (Q w w3) := HQ2.out.trans q3
    have HQ23 : Hid (Q w2 w3) := q3
    clear q3
    go_wp2_with fail
    refine (place_any cut ((S.length : Int) + 1) (by omega) (by omega) _).mono ?_
    rintro e w3' ⟨p, rfl, hp, hw⟩
    subst hw
    go_wp2_with fail
    refine (new_any _).mono ?_
    rintro e w4 ⟨rfl, hA4, q4, hl4⟩
    have HA4 : Hid (AccOf w4 w3'.heap.size [] 0 (fun _ => 0)) := hA4
    have HQ24 : Hid (Q w2 w4) := HQ23.out.trans q4
    have HlA : Hid (w2.heap.size ≤ w3'.heap.size) := HQ23.out.1.size
    have HlA4 : Hid (w3'.heap.size < w4.heap.size) := hl4
    clear hA4 q4 hl4 HQ23
    go_wp2_with fail
    refine (new_any _).mono ?_
    rintro e w5 ⟨rfl, hB5, q5, hl5⟩
    have HB5 : Hid (AccOf w5 w4.heap.size [] 0 (fun _ => 0)) := hB5
    have HA5 : Hid (AccOf w5 w3'.heap.size [] 0 (fun _ => 0)) := HA4.out.next q5
    have HQ25 : Hid (Q w2 w5) := HQ24.out.trans q5
    have HlB : Hid (w2.heap.size ≤ w4.heap.size) := HQ24.out.1.size
    clear hB5 q5 hl5 HA4 HQ24
    have HAB : Hid (w3'.heap.size ≠ w4.heap.size) := Nat.ne_of_lt HlA4.out
    generalize w3'.heap.size = A at *
    generalize w4.heap.size = B at *
    have HE : Hid (sumV S' 1 = sumV S 1) := sumV_perm HP.out 1
    have HZ : Hid (2 * (sumZ S').natAbs < m64 ^ 5) := sumZ_fits (fun s hs => by
      obtain ⟨i, hi, rfl⟩ := List.getElem_of_mem hs
      have := HB'.out i
      rw [List.getD_eq_getElem?_getD, List.getElem?_eq_getElem hi] at this
      exact this) (by rw [HLe.out]; omega)
    have hpl : p ≤ S.length := by omega
    rcases hcase with ⟨hz, rfl, rfl⟩ | ⟨hz, rfl, hlc, hU, hbl⟩
    · obtain rfl : S = [] := List.eq_nil_of_length_eq_zero hz
      obtain rfl : S' = [] := List.eq_nil_of_length_eq_zero HLe.out
      obtain rfl : p = 0 := by simp at hp; omega
      have HV1 : Hid (USl w2 (.slice none 0 0) []) := Or.inr ⟨_, _, rfl, rfl⟩
      have HVA : Hid (USl w2 (.slice none 0 0) []) := Or.inr ⟨_, _, rfl, rfl⟩
      have HVB : Hid (USl w2 (.slice none 0 0) []) := Or.inr ⟨_, _, rfl, rfl⟩
      clear hz hp hpl
      go_wp2_with fail
      refine (acc_add _ [] [] A 0 _ _ HA5.out (HVA.out.next HQ25.out) (fun g o cap h0 e => by cases h0) HB'.out (by simp)).mono ?_
      rintro e w6 ⟨rfl, ⟨N6, hA6⟩, f6⟩
      rw [List.nil_append] at hA6
      have HA6 : Hid (AccOf w6 A [] (0 + [].length) N6) := hA6
      have HB6 : Hid (AccOf w6 B [] 0 (fun _ => 0)) := HB5.out.far f6 (Ne.symm HAB.out)
      have HQ26 : Hid (Q w2 w6) := f6.q HQ25.out HlA.out
      clear hA6 f6 HA5 HB5 HQ25
      go_wp2_with fail
      refine (acc_add _ [] [] B 0 _ _ HB6.out (HVB.out.next HQ26.out) (fun g o cap h0 e => by cases h0) HB'.out (by simp)).mono ?_
      rintro e w7 ⟨rfl, ⟨N7, hB7⟩, f7⟩
      rw [List.nil_append] at hB7
      have HB7 : Hid (AccOf w7 B [] (0 + [].length) N7) := hB7
      have HA7 : Hid (AccOf w7 A [] (0 + [].length) N6) := HA6.out.far f7 HAB.out
      have HQ27 : Hid (Q w2 w7) := f7.q HQ26.out HlB.out
      clear hB7 f7 HA6 HB6 HQ26
      go_wp2_with fail
      refine (merge_any _ _ A B _ _ N6 N7 _ HA7.out HB7.out (by simp)).mono ?_
      rintro e w8 ⟨rfl, hA8, f8⟩
      have HA8 : Hid (AccOf w8 A [] 0 (dgV N6 N7)) := by
        exact hA8
      have HB8 : Hid (AccOf w8 B [] (0 + [].length) N7) := HB7.out.far f8 (Ne.symm HAB.out)
      have HQ28 : Hid (Q w2 w8) := f8.q HQ27.out HlA.out
      clear hA8 f8 HA7 HB7 HQ27
      go_wp2_with fail
      refine (merge_any _ _ B B _ _ N7 N7 _ HB8.out HB8.out (by simp)).mono ?_
      rintro e w9 ⟨rfl, hB9, f9⟩
      have HB9 : Hid (w9.cell? ⟨B, 6, none⟩ = some (.int .i64 ((2 * (0 - 0) : Nat) : Int))) := by
        exact hB9.c
      have HA9 : Hid (AccOf w9 A [] 0 (dgV N6 N7)) := HA8.out.far f9 HAB.out
      have HQ29 : Hid (Q w2 w9) := f9.q HQ28.out HlB.out
      clear hB9 f9 HA8 HB8 HQ28
      go_wp2_with fail
      refine (exact_any0 _ [] _ (HV1.out.next HQ29.out) HB'.out (by simp) ((HQ2.out.trans HQ29.out).tab HT.out)).mono ?_
      rintro e wa ⟨rfl, qa⟩
      have HAa : Hid (AccOf wa A [] 0 (dgV N6 N7)) := HA9.out.next qa
      have HBa : Hid (wa.cell? ⟨B, 6, none⟩ = some (.int .i64 ((2 * (0 - 0) : Nat) : Int))) := qa.cell HB9.out
      have HQ2a : Hid (Q w2 wa) := HQ29.out.trans qa
      clear qa HA9 HB9 HQ29
      go_wp2_with fail
      refine (asum_any [] A 0 _ _ HAa.out HZ.out ((HQ2.out.trans HQ2a.out).tab HT.out)).mono ?_
      rintro e wb ⟨rfl, qb⟩
      have cA := qb.cell HAa.out.c
      have cB := qb.cell HBa.out
      have HQ2b : Hid (Q w2 wb) := HQ2a.out.trans qb
      clear qb HAa HBa HQ2a
      go_wp2_with fail
      refine (acount_any A 0 _ cA).mono ?_
      rintro e wc ⟨rfl, rfl⟩
      go_wp2_with fail
      refine (acount_any B ((2 * (0 - 0) : Nat) : Int) _ cB).mono ?_
      rintro e wd ⟨rfl, rfl⟩
      have eB : ((2 * (0 - 0) : Nat) : Int) = 2 * ((0 : Int) - (0 : Int)) := by omega
      rw [eB]
      clear eB cA cB
      go_wp2_with (at_builtin; go_must (refine wpList_copyU wd (by rfl) (.tmp 75) rfl (none) 0 0 [] rfl (by omega) (by simp [Act.eval, Act.put]) (HV1.out.next HQ2b.out) ?_; intro la2 lc2 we qe hS2; have HQ2e : Hid (Q w2 we) := HQ2b.out.trans qe; have HS2 : Hid (USl we (.slice la2 0 lc2) []) := hS2; clear qe hS2 HQ2b))
      refine (exact_any0 _ [] _ HS2.out HB'.out (by simp) ((HQ2.out.trans HQ2e.out).tab HT.out)).mono ?_
      rintro e wf ⟨rfl, qf⟩
      have HQ2f : Hid (Q w2 wf) := HQ2e.out.trans qf
      clear qf HS2 HQ2e
      have hand : bits .and .u32 (x : Int) 2147483647 = ((x % 2147483648 : Nat) : Int) := and31u x hx
      by_cases hbig : 2139095040 ≤ x % 2147483648
      · have hbig' : (2139095040 : Int) ≤ ((x % 2147483648 : Nat) : Int) := by omega
        generalize ((x % 2147483648 : Nat) : Int) = xm at *
        go_wp2_with fail
        go_ret
        exact ⟨rfl, HQ2.out.trans HQ2f.out⟩
      · have hbig' : ¬ (2139095040 : Int) ≤ ((x % 2147483648 : Nat) : Int) := by omega
        generalize ((x % 2147483648 : Nat) : Int) = xm at *
        have hxor := xor31 x hx
        have HP1 : Hid (sumV ([x] ++ [] ++ [ngS x]) 1 = if (sumV [] 1) = 2147483648 then 0 else (sumV [] 1)) := by
          have h := sumV_pair hx (by omega) []
          exact h
        have HB2 : Hid (∀ i, ([x] ++ [] ++ [ngS x]).getD i 0 < 4294967296) := getD_lt_all (fun z hz => by
          rcases List.mem_append.1 hz with hz | hz
          · rcases List.mem_append.1 hz with hz | hz
            · rw [List.mem_singleton.1 hz]; exact hx
            · exact mem_lt HB'.out z hz
          · rw [List.mem_singleton.1 hz]; exact ng_lt hx)
        clear hbig
        by_cases hE : (sumV [] 1) = 2147483648
        · have hE' : (((sumV [] 1) : Int) == 2147483648) = true := by rw [hE]; rfl
          rw [if_pos hE] at HP1
          go_wp2_with fail
        · have hE' : (((sumV [] 1) : Int) == 2147483648) = false := by simp; omega
          rw [if_neg hE] at HP1
          go_wp2_with (at_builtin; first | refine wpList_addU (wf.alloc (.cells #[.int .u32 (x : Int)] 23)) wf ((Q.refl wf).cells _ _) rfl (.tmp 87) (.tmp 88) rfl (.slice (some ⟨wf.heap.size, 0, none⟩) 1 1) 1 [x] (by simp [Act.eval, Act.put]) (own_one wf _ _) (by decide) (none) 0 0 [] (by simp [Act.eval, Act.put]) ((HV1.out.next HQ2f.out).next ((Q.refl wf).cells _ _)) rfl (by omega) ?_; intro g3 cap3 wh hown3 qh; have HO3 : Hid (wh.ownsRow wf.heap.size 23 1 (.slice (some ⟨g3, 0, none⟩) (1 + 0) cap3) (1 + 0) (newsU ([x] ++ []))) := hown3; have HQh : Hid (Q wf wh) := qh; clear hown3 qh | refine wpList_addU (wh.alloc (.cells #[.int .u32 ((ngS x : Nat) : Int)] 23)) wf (HQh.out.cells _ _) rfl (.tmp 89) (.tmp 92) rfl (.slice (some ⟨g3, 0, none⟩) (1 + 0) cap3) (1 + 0) ([x] ++ []) (by simp [Act.eval, Act.put]) (World.ownsRow.alloc HO3.out _) (by omega) (some ⟨wh.heap.size, 0, none⟩) 1 1 [ngS x] (by simp [Act.eval, Act.put]) (own_usl (own_one wh _ _) rfl) rfl (by omega) ?_; intro g4 cap4 wj hown4 qj; have HO4 : Hid (wj.ownsRow wf.heap.size 23 1 (.slice (some ⟨g4, 0, none⟩) (1 + 0 + 1) cap4) (1 + 0 + 1) (newsU ([x] ++ [] ++ [ngS x]))) := hown4; have HQj : Hid (Q wf wj) := qj; clear hown4 qj)
          refine (exact_any0 _ ([x] ++ [] ++ [ngS x]) _ (own_usl HO4.out (by simp)) HB2.out (by simp) ((HQ2.out.trans (HQ2f.out.trans HQj.out)).tab HT.out)).mono ?_
          rintro e wk ⟨rfl, qk⟩
          rw [HP1.out]
          have HQk : Hid (Q w wk) := HQ2.out.trans (HQ2f.out.trans (HQj.out.trans qk))
          clear qk HO4 HO3 HQj HQh HP1
          go_wp2_with fail
          go_ret
          exact ⟨by first | rfl | simp, HQk.out⟩
    · have HU2 : Hid (UIs w2 w1.heap.size 0 S') := hU
      have Hbl : Hid (w1.heap.size < w2.heap.size) := hbl
      clear hU hbl
      generalize w1.heap.size = b at *
      have HV1 : Hid (USl w2 (.slice (some ⟨b, 0, none⟩) S.length lc) S') := Or.inl ⟨b, 0, lc, by rw [HLe.out], by rw [HLe.out]; exact hlc, HU2.out⟩
      have HVA : Hid (USl w2 (.slice (some ⟨b, 0, none⟩) p lc) (S'.take p)) := Or.inl ⟨b, 0, lc, by rw [List.length_take, HLe.out, Nat.min_eq_left hpl], by rw [List.length_take, HLe.out, Nat.min_eq_left hpl]; omega, HU2.out.front p⟩
      by_cases hlp : lc = p
      · have hpS : p = S.length := by omega
        subst hlp
        subst hpS
        have HVB : Hid (USl w2 (.slice (some ⟨b, 0, none⟩) 0 0) (S'.drop S.length)) := Or.inr ⟨_, _, rfl, List.drop_eq_nil_of_le (by rw [HLe.out]; omega)⟩
        go_wp2_with fail
        refine (acc_add _ (S'.take S.length) [] A 0 _ _ HA5.out (HVA.out.next HQ25.out) (fun g o cap h0 e => by have := HVA.out.block h0 e; have := HlA.out; omega) (getD_lt_take HB'.out S.length) (by rw [List.length_take]; omega)).mono ?_
        rintro e w6 ⟨rfl, ⟨N6, hA6⟩, f6⟩
        rw [List.nil_append] at hA6
        have HA6 : Hid (AccOf w6 A (S'.take S.length) (0 + (S'.take S.length).length) N6) := hA6
        have HB6 : Hid (AccOf w6 B [] 0 (fun _ => 0)) := HB5.out.far f6 (Ne.symm HAB.out)
        have HQ26 : Hid (Q w2 w6) := f6.q HQ25.out HlA.out
        clear hA6 f6 HA5 HB5 HQ25
        go_wp2_with fail
        refine (acc_add _ (S'.drop S.length) [] B 0 _ _ HB6.out (HVB.out.next HQ26.out) (fun g o cap h0 e => by have := HVB.out.block h0 e; have := HlB.out; omega) (getD_lt_drop HB'.out S.length) (by rw [List.length_drop, HLe.out]; omega)).mono ?_
        rintro e w7 ⟨rfl, ⟨N7, hB7⟩, f7⟩
        rw [List.nil_append] at hB7
        have HB7 : Hid (AccOf w7 B (S'.drop S.length) (0 + (S'.drop S.length).length) N7) := hB7
        have HA7 : Hid (AccOf w7 A (S'.take S.length) (0 + (S'.take S.length).length) N6) := HA6.out.far f7 HAB.out
        have HQ27 : Hid (Q w2 w7) := f7.q HQ26.out HlB.out
        clear hB7 f7 HA6 HB6 HQ26
        go_wp2_with fail
        refine (merge_any _ _ A B _ _ N6 N7 _ HA7.out HB7.out (by rw [List.length_take, List.length_drop, HLe.out]; omega)).mono ?_
        rintro e w8 ⟨rfl, hA8, f8⟩
        have HA8 : Hid (AccOf w8 A S' S.length (dgV N6 N7)) := by
          rw [List.take_append_drop, Nat.zero_add, Nat.zero_add, ← List.length_append, List.take_append_drop, HLe.out] at hA8
          exact hA8
        have HB8 : Hid (AccOf w8 B (S'.drop S.length) (0 + (S'.drop S.length).length) N7) := HB7.out.far f8 (Ne.symm HAB.out)
        have HQ28 : Hid (Q w2 w8) := f8.q HQ27.out HlA.out
        clear hA8 f8 HA7 HB7 HQ27
        go_wp2_with fail
        refine (merge_any _ _ B B _ _ N7 N7 _ HB8.out HB8.out (by rw [List.length_drop, HLe.out]; omega)).mono ?_
        rintro e w9 ⟨rfl, hB9, f9⟩
        have HB9 : Hid (w9.cell? ⟨B, 6, none⟩ = some (.int .i64 ((2 * (S.length - S.length) : Nat) : Int))) := by
          have h := hB9.c
          rw [List.length_drop, HLe.out, show 0 + (S.length - S.length) + (0 + (S.length - S.length)) = 2 * (S.length - S.length) by omega] at h
          exact h
        have HA9 : Hid (AccOf w9 A S' S.length (dgV N6 N7)) := HA8.out.far f9 HAB.out
        have HQ29 : Hid (Q w2 w9) := f9.q HQ28.out HlB.out
        clear hB9 f9 HA8 HB8 HQ28
        go_wp2_with fail
        refine (exact_any0 _ S' _ (HV1.out.next HQ29.out) HB'.out (by rw [HLe.out]; omega) ((HQ2.out.trans HQ29.out).tab HT.out)).mono ?_
        rintro e wa ⟨rfl, qa⟩
        rw [HE.out]
        have HAa : Hid (AccOf wa A S' S.length (dgV N6 N7)) := HA9.out.next qa
        have HBa : Hid (wa.cell? ⟨B, 6, none⟩ = some (.int .i64 ((2 * (S.length - S.length) : Nat) : Int))) := qa.cell HB9.out
        have HQ2a : Hid (Q w2 wa) := HQ29.out.trans qa
        clear qa HA9 HB9 HQ29
        go_wp2_with fail
        refine (asum_any S' A S.length _ _ HAa.out HZ.out ((HQ2.out.trans HQ2a.out).tab HT.out)).mono ?_
        rintro e wb ⟨rfl, qb⟩
        rw [HE.out]
        have cA := qb.cell HAa.out.c
        have cB := qb.cell HBa.out
        have HQ2b : Hid (Q w2 wb) := HQ2a.out.trans qb
        clear qb HAa HBa HQ2a
        go_wp2_with fail
        refine (acount_any A S.length _ cA).mono ?_
        rintro e wc ⟨rfl, rfl⟩
        go_wp2_with fail
        refine (acount_any B ((2 * (S.length - S.length) : Nat) : Int) _ cB).mono ?_
        rintro e wd ⟨rfl, rfl⟩
        have eB : ((2 * (S.length - S.length) : Nat) : Int) = 2 * ((S.length : Int) - (S.length : Int)) := by omega
        rw [eB]
        clear eB cA cB
        generalize sumV S 1 = E at *
        go_wp2_with (at_builtin; go_must (refine wpList_copyU wd (by rfl) (.tmp 75) rfl (some ⟨b, 0, none⟩) S.length S.length S' HLe.out (by omega) (by simp [Act.eval, Act.put]) (HV1.out.next HQ2b.out) ?_; intro la2 lc2 we qe hS2; have HQ2e : Hid (Q w2 we) := HQ2b.out.trans qe; have HS2 : Hid (USl we (.slice la2 S.length lc2) S') := hS2; clear qe hS2 HQ2b))
        refine (exact_any0 _ S' _ HS2.out HB'.out (by rw [HLe.out]; omega) ((HQ2.out.trans HQ2e.out).tab HT.out)).mono ?_
        rintro e wf ⟨rfl, qf⟩
        rw [HE.out]
        have HQ2f : Hid (Q w2 wf) := HQ2e.out.trans qf
        clear qf HS2 HQ2e
        have hand : bits .and .u32 (x : Int) 2147483647 = ((x % 2147483648 : Nat) : Int) := and31u x hx
        by_cases hbig : 2139095040 ≤ x % 2147483648
        · have hbig' : (2139095040 : Int) ≤ ((x % 2147483648 : Nat) : Int) := by omega
          generalize ((x % 2147483648 : Nat) : Int) = xm at *
          go_wp2_with fail
          go_ret
          exact ⟨rfl, HQ2.out.trans HQ2f.out⟩
        · have hbig' : ¬ (2139095040 : Int) ≤ ((x % 2147483648 : Nat) : Int) := by omega
          generalize ((x % 2147483648 : Nat) : Int) = xm at *
          have hxor := xor31 x hx
          have HP1 : Hid (sumV ([x] ++ S' ++ [ngS x]) 1 = if E = 2147483648 then 0 else E) := by
            have h := sumV_pair hx (by omega) S'
            rw [HE.out] at h
            exact h
          have HB2 : Hid (∀ i, ([x] ++ S' ++ [ngS x]).getD i 0 < 4294967296) := getD_lt_all (fun z hz => by
            rcases List.mem_append.1 hz with hz | hz
            · rcases List.mem_append.1 hz with hz | hz
              · rw [List.mem_singleton.1 hz]; exact hx
              · exact mem_lt HB'.out z hz
            · rw [List.mem_singleton.1 hz]; exact ng_lt hx)
          clear hbig
          by_cases hE : E = 2147483648
          · have hE' : ((E : Int) == 2147483648) = true := by rw [hE]; rfl
            rw [if_pos hE] at HP1
            go_wp2_with (at_builtin; first | refine wpList_addU (wf.alloc (.cells #[.int .u32 (x : Int)] 23)) wf ((Q.refl wf).cells _ _) rfl (.tmp 87) (.tmp 88) rfl (.slice (some ⟨wf.heap.size, 0, none⟩) 1 1) 1 [x] (by simp [Act.eval, Act.put]) (own_one wf _ _) (by decide) (some ⟨b, 0, none⟩) S.length S.length S' (by simp [Act.eval, Act.put]) ((HV1.out.next HQ2f.out).next ((Q.refl wf).cells _ _)) HLe.out (by omega) ?_; intro g3 cap3 wh hown3 qh; have HO3 : Hid (wh.ownsRow wf.heap.size 23 1 (.slice (some ⟨g3, 0, none⟩) (1 + S.length) cap3) (1 + S.length) (newsU ([x] ++ S'))) := hown3; have HQh : Hid (Q wf wh) := qh; clear hown3 qh | refine wpList_addU (wh.alloc (.cells #[.int .u32 ((ngS x : Nat) : Int)] 23)) wf (HQh.out.cells _ _) rfl (.tmp 89) (.tmp 92) rfl (.slice (some ⟨g3, 0, none⟩) (1 + S.length) cap3) (1 + S.length) ([x] ++ S') (by simp [Act.eval, Act.put]) (World.ownsRow.alloc HO3.out _) (by omega) (some ⟨wh.heap.size, 0, none⟩) 1 1 [ngS x] (by simp [Act.eval, Act.put]) (own_usl (own_one wh _ _) rfl) rfl (by omega) ?_; intro g4 cap4 wj hown4 qj; have HO4 : Hid (wj.ownsRow wf.heap.size 23 1 (.slice (some ⟨g4, 0, none⟩) (1 + S.length + 1) cap4) (1 + S.length + 1) (newsU ([x] ++ S' ++ [ngS x]))) := hown4; have HQj : Hid (Q wf wj) := qj; clear hown4 qj)
            refine (exact_any0 _ ([x] ++ S' ++ [ngS x]) _ (own_usl HO4.out (by simp [HLe.out]; omega)) HB2.out (by simp [HLe.out]; omega) ((HQ2.out.trans (HQ2f.out.trans HQj.out)).tab HT.out)).mono ?_
            rintro e wk ⟨rfl, qk⟩
            rw [HP1.out]
            have HQk : Hid (Q w wk) := HQ2.out.trans (HQ2f.out.trans (HQj.out.trans qk))
            clear qk HO4 HO3 HQj HQh HP1
            go_wp2_with fail
            go_ret
            exact ⟨by first | rfl | simp, HQk.out⟩
          · have hE' : ((E : Int) == 2147483648) = false := by simp; omega
            rw [if_neg hE] at HP1
            go_wp2_with (at_builtin; first | refine wpList_addU (wf.alloc (.cells #[.int .u32 (x : Int)] 23)) wf ((Q.refl wf).cells _ _) rfl (.tmp 87) (.tmp 88) rfl (.slice (some ⟨wf.heap.size, 0, none⟩) 1 1) 1 [x] (by simp [Act.eval, Act.put]) (own_one wf _ _) (by decide) (some ⟨b, 0, none⟩) S.length S.length S' (by simp [Act.eval, Act.put]) ((HV1.out.next HQ2f.out).next ((Q.refl wf).cells _ _)) HLe.out (by omega) ?_; intro g3 cap3 wh hown3 qh; have HO3 : Hid (wh.ownsRow wf.heap.size 23 1 (.slice (some ⟨g3, 0, none⟩) (1 + S.length) cap3) (1 + S.length) (newsU ([x] ++ S'))) := hown3; have HQh : Hid (Q wf wh) := qh; clear hown3 qh | refine wpList_addU (wh.alloc (.cells #[.int .u32 ((ngS x : Nat) : Int)] 23)) wf (HQh.out.cells _ _) rfl (.tmp 89) (.tmp 92) rfl (.slice (some ⟨g3, 0, none⟩) (1 + S.length) cap3) (1 + S.length) ([x] ++ S') (by simp [Act.eval, Act.put]) (World.ownsRow.alloc HO3.out _) (by omega) (some ⟨wh.heap.size, 0, none⟩) 1 1 [ngS x] (by simp [Act.eval, Act.put]) (own_usl (own_one wh _ _) rfl) rfl (by omega) ?_; intro g4 cap4 wj hown4 qj; have HO4 : Hid (wj.ownsRow wf.heap.size 23 1 (.slice (some ⟨g4, 0, none⟩) (1 + S.length + 1) cap4) (1 + S.length + 1) (newsU ([x] ++ S' ++ [ngS x]))) := hown4; have HQj : Hid (Q wf wj) := qj; clear hown4 qj)
            refine (exact_any0 _ ([x] ++ S' ++ [ngS x]) _ (own_usl HO4.out (by simp [HLe.out]; omega)) HB2.out (by simp [HLe.out]; omega) ((HQ2.out.trans (HQ2f.out.trans HQj.out)).tab HT.out)).mono ?_
            rintro e wk ⟨rfl, qk⟩
            rw [HP1.out]
            have HQk : Hid (Q w wk) := HQ2.out.trans (HQ2f.out.trans (HQj.out.trans qk))
            clear qk HO4 HO3 HQj HQh HP1
            go_wp2_with fail
            go_ret
            exact ⟨by first | rfl | simp, HQk.out⟩
      · have HVB : Hid (USl w2 (.slice (some ⟨b, p, none⟩) (S.length - p) (lc - p)) (S'.drop p)) := Or.inl ⟨b, p, lc - p, by rw [List.length_drop, HLe.out], by rw [List.length_drop, HLe.out]; omega, by have := HU2.out.rest p; rw [Nat.zero_add] at this; exact this⟩
        go_wp2_with fail
        refine (acc_add _ (S'.take p) [] A 0 _ _ HA5.out (HVA.out.next HQ25.out) (fun g o cap h0 e => by have := HVA.out.block h0 e; have := HlA.out; omega) (getD_lt_take HB'.out p) (by rw [List.length_take]; omega)).mono ?_
        rintro e w6 ⟨rfl, ⟨N6, hA6⟩, f6⟩
        rw [List.nil_append] at hA6
        have HA6 : Hid (AccOf w6 A (S'.take p) (0 + (S'.take p).length) N6) := hA6
        have HB6 : Hid (AccOf w6 B [] 0 (fun _ => 0)) := HB5.out.far f6 (Ne.symm HAB.out)
        have HQ26 : Hid (Q w2 w6) := f6.q HQ25.out HlA.out
        clear hA6 f6 HA5 HB5 HQ25
        go_wp2_with fail
        refine (acc_add _ (S'.drop p) [] B 0 _ _ HB6.out (HVB.out.next HQ26.out) (fun g o cap h0 e => by have := HVB.out.block h0 e; have := HlB.out; omega) (getD_lt_drop HB'.out p) (by rw [List.length_drop, HLe.out]; omega)).mono ?_
        rintro e w7 ⟨rfl, ⟨N7, hB7⟩, f7⟩
        rw [List.nil_append] at hB7
        have HB7 : Hid (AccOf w7 B (S'.drop p) (0 + (S'.drop p).length) N7) := hB7
        have HA7 : Hid (AccOf w7 A (S'.take p) (0 + (S'.take p).length) N6) := HA6.out.far f7 HAB.out
        have HQ27 : Hid (Q w2 w7) := f7.q HQ26.out HlB.out
        clear hB7 f7 HA6 HB6 HQ26
        go_wp2_with fail
        refine (merge_any _ _ A B _ _ N6 N7 _ HA7.out HB7.out (by rw [List.length_take, List.length_drop, HLe.out]; omega)).mono ?_
        rintro e w8 ⟨rfl, hA8, f8⟩
        have HA8 : Hid (AccOf w8 A S' S.length (dgV N6 N7)) := by
          rw [List.take_append_drop, Nat.zero_add, Nat.zero_add, ← List.length_append, List.take_append_drop, HLe.out] at hA8
          exact hA8
        have HB8 : Hid (AccOf w8 B (S'.drop p) (0 + (S'.drop p).length) N7) := HB7.out.far f8 (Ne.symm HAB.out)
        have HQ28 : Hid (Q w2 w8) := f8.q HQ27.out HlA.out
        clear hA8 f8 HA7 HB7 HQ27
        go_wp2_with fail
        refine (merge_any _ _ B B _ _ N7 N7 _ HB8.out HB8.out (by rw [List.length_drop, HLe.out]; omega)).mono ?_
        rintro e w9 ⟨rfl, hB9, f9⟩
        have HB9 : Hid (w9.cell? ⟨B, 6, none⟩ = some (.int .i64 ((2 * (S.length - p) : Nat) : Int))) := by
          have h := hB9.c
          rw [List.length_drop, HLe.out, show 0 + (S.length - p) + (0 + (S.length - p)) = 2 * (S.length - p) by omega] at h
          exact h
        have HA9 : Hid (AccOf w9 A S' S.length (dgV N6 N7)) := HA8.out.far f9 HAB.out
        have HQ29 : Hid (Q w2 w9) := f9.q HQ28.out HlB.out
        clear hB9 f9 HA8 HB8 HQ28
        go_wp2_with fail
        refine (exact_any0 _ S' _ (HV1.out.next HQ29.out) HB'.out (by rw [HLe.out]; omega) ((HQ2.out.trans HQ29.out).tab HT.out)).mono ?_
        rintro e wa ⟨rfl, qa⟩
        rw [HE.out]
        have HAa : Hid (AccOf wa A S' S.length (dgV N6 N7)) := HA9.out.next qa
        have HBa : Hid (wa.cell? ⟨B, 6, none⟩ = some (.int .i64 ((2 * (S.length - p) : Nat) : Int))) := qa.cell HB9.out
        have HQ2a : Hid (Q w2 wa) := HQ29.out.trans qa
        clear qa HA9 HB9 HQ29
        go_wp2_with fail
        refine (asum_any S' A S.length _ _ HAa.out HZ.out ((HQ2.out.trans HQ2a.out).tab HT.out)).mono ?_
        rintro e wb ⟨rfl, qb⟩
        rw [HE.out]
        have cA := qb.cell HAa.out.c
        have cB := qb.cell HBa.out
        have HQ2b : Hid (Q w2 wb) := HQ2a.out.trans qb
        clear qb HAa HBa HQ2a
        go_wp2_with fail
        refine (acount_any A S.length _ cA).mono ?_
        rintro e wc ⟨rfl, rfl⟩
        go_wp2_with fail
        refine (acount_any B ((2 * (S.length - p) : Nat) : Int) _ cB).mono ?_
        rintro e wd ⟨rfl, rfl⟩
        have eB : ((2 * (S.length - p) : Nat) : Int) = 2 * ((S.length : Int) - (p : Int)) := by omega
        rw [eB]
        clear eB cA cB
        generalize sumV S 1 = E at *
        go_wp2_with (at_builtin; go_must (refine wpList_copyU wd (by rfl) (.tmp 75) rfl (some ⟨b, 0, none⟩) S.length lc S' HLe.out (by omega) (by simp [Act.eval, Act.put]) (HV1.out.next HQ2b.out) ?_; intro la2 lc2 we qe hS2; have HQ2e : Hid (Q w2 we) := HQ2b.out.trans qe; have HS2 : Hid (USl we (.slice la2 S.length lc2) S') := hS2; clear qe hS2 HQ2b))
        refine (exact_any0 _ S' _ HS2.out HB'.out (by rw [HLe.out]; omega) ((HQ2.out.trans HQ2e.out).tab HT.out)).mono ?_
        rintro e wf ⟨rfl, qf⟩
        rw [HE.out]
        have HQ2f : Hid (Q w2 wf) := HQ2e.out.trans qf
        clear qf HS2 HQ2e
        have hand : bits .and .u32 (x : Int) 2147483647 = ((x % 2147483648 : Nat) : Int) := and31u x hx
        by_cases hbig : 2139095040 ≤ x % 2147483648
        · have hbig' : (2139095040 : Int) ≤ ((x % 2147483648 : Nat) : Int) := by omega
          generalize ((x % 2147483648 : Nat) : Int) = xm at *
          go_wp2_with fail
          go_ret
          exact ⟨rfl, HQ2.out.trans HQ2f.out⟩
        · have hbig' : ¬ (2139095040 : Int) ≤ ((x % 2147483648 : Nat) : Int) := by omega
          generalize ((x % 2147483648 : Nat) : Int) = xm at *
          have hxor := xor31 x hx
          have HP1 : Hid (sumV ([x] ++ S' ++ [ngS x]) 1 = if E = 2147483648 then 0 else E) := by
            have h := sumV_pair hx (by omega) S'
            rw [HE.out] at h
            exact h
          have HB2 : Hid (∀ i, ([x] ++ S' ++ [ngS x]).getD i 0 < 4294967296) := getD_lt_all (fun z hz => by
            rcases List.mem_append.1 hz with hz | hz
            · rcases List.mem_append.1 hz with hz | hz
              · rw [List.mem_singleton.1 hz]; exact hx
              · exact mem_lt HB'.out z hz
            · rw [List.mem_singleton.1 hz]; exact ng_lt hx)
          clear hbig
          by_cases hE : E = 2147483648
          · have hE' : ((E : Int) == 2147483648) = true := by rw [hE]; rfl
            rw [if_pos hE] at HP1
            go_wp2_with (at_builtin; first | refine wpList_addU (wf.alloc (.cells #[.int .u32 (x : Int)] 23)) wf ((Q.refl wf).cells _ _) rfl (.tmp 87) (.tmp 88) rfl (.slice (some ⟨wf.heap.size, 0, none⟩) 1 1) 1 [x] (by simp [Act.eval, Act.put]) (own_one wf _ _) (by decide) (some ⟨b, 0, none⟩) S.length lc S' (by simp [Act.eval, Act.put]) ((HV1.out.next HQ2f.out).next ((Q.refl wf).cells _ _)) HLe.out (by omega) ?_; intro g3 cap3 wh hown3 qh; have HO3 : Hid (wh.ownsRow wf.heap.size 23 1 (.slice (some ⟨g3, 0, none⟩) (1 + S.length) cap3) (1 + S.length) (newsU ([x] ++ S'))) := hown3; have HQh : Hid (Q wf wh) := qh; clear hown3 qh | refine wpList_addU (wh.alloc (.cells #[.int .u32 ((ngS x : Nat) : Int)] 23)) wf (HQh.out.cells _ _) rfl (.tmp 89) (.tmp 92) rfl (.slice (some ⟨g3, 0, none⟩) (1 + S.length) cap3) (1 + S.length) ([x] ++ S') (by simp [Act.eval, Act.put]) (World.ownsRow.alloc HO3.out _) (by omega) (some ⟨wh.heap.size, 0, none⟩) 1 1 [ngS x] (by simp [Act.eval, Act.put]) (own_usl (own_one wh _ _) rfl) rfl (by omega) ?_; intro g4 cap4 wj hown4 qj; have HO4 : Hid (wj.ownsRow wf.heap.size 23 1 (.slice (some ⟨g4, 0, none⟩) (1 + S.length + 1) cap4) (1 + S.length + 1) (newsU ([x] ++ S' ++ [ngS x]))) := hown4; have HQj : Hid (Q wf wj) := qj; clear hown4 qj)
            refine (exact_any0 _ ([x] ++ S' ++ [ngS x]) _ (own_usl HO4.out (by simp [HLe.out]; omega)) HB2.out (by simp [HLe.out]; omega) ((HQ2.out.trans (HQ2f.out.trans HQj.out)).tab HT.out)).mono ?_
            rintro e wk ⟨rfl, qk⟩
            rw [HP1.out]
            have HQk : Hid (Q w wk) := HQ2.out.trans (HQ2f.out.trans (HQj.out.trans qk))
            clear qk HO4 HO3 HQj HQh HP1
            go_wp2_with fail
            go_ret
            exact ⟨by first | rfl | simp, HQk.out⟩
          · have hE' : ((E : Int) == 2147483648) = false := by simp; omega
            rw [if_neg hE] at HP1
            go_wp2_with (at_builtin; first | refine wpList_addU (wf.alloc (.cells #[.int .u32 (x : Int)] 23)) wf ((Q.refl wf).cells _ _) rfl (.tmp 87) (.tmp 88) rfl (.slice (some ⟨wf.heap.size, 0, none⟩) 1 1) 1 [x] (by simp [Act.eval, Act.put]) (own_one wf _ _) (by decide) (some ⟨b, 0, none⟩) S.length lc S' (by simp [Act.eval, Act.put]) ((HV1.out.next HQ2f.out).next ((Q.refl wf).cells _ _)) HLe.out (by omega) ?_; intro g3 cap3 wh hown3 qh; have HO3 : Hid (wh.ownsRow wf.heap.size 23 1 (.slice (some ⟨g3, 0, none⟩) (1 + S.length) cap3) (1 + S.length) (newsU ([x] ++ S'))) := hown3; have HQh : Hid (Q wf wh) := qh; clear hown3 qh | refine wpList_addU (wh.alloc (.cells #[.int .u32 ((ngS x : Nat) : Int)] 23)) wf (HQh.out.cells _ _) rfl (.tmp 89) (.tmp 92) rfl (.slice (some ⟨g3, 0, none⟩) (1 + S.length) cap3) (1 + S.length) ([x] ++ S') (by simp [Act.eval, Act.put]) (World.ownsRow.alloc HO3.out _) (by omega) (some ⟨wh.heap.size, 0, none⟩) 1 1 [ngS x] (by simp [Act.eval, Act.put]) (own_usl (own_one wh _ _) rfl) rfl (by omega) ?_; intro g4 cap4 wj hown4 qj; have HO4 : Hid (wj.ownsRow wf.heap.size 23 1 (.slice (some ⟨g4, 0, none⟩) (1 + S.length + 1) cap4) (1 + S.length + 1) (newsU ([x] ++ S' ++ [ngS x]))) := hown4; have HQj : Hid (Q wf wj) := qj; clear hown4 qj)
            refine (exact_any0 _ ([x] ++ S' ++ [ngS x]) _ (own_usl HO4.out (by simp [HLe.out]; omega)) HB2.out (by simp [HLe.out]; omega) ((HQ2.out.trans (HQ2f.out.trans HQj.out)).tab HT.out)).mono ?_
            rintro e wk ⟨rfl, qk⟩
            rw [HP1.out]
            have HQk : Hid (Q w wk) := HQ2.out.trans (HQ2f.out.trans (HQj.out.trans qk))
            clear qk HO4 HO3 HQj HQh HP1
            go_wp2_with fail
            go_ret
            exact ⟨by first | rfl | simp, HQk.out⟩
end Go.Proofs.YtnjagokojdpgpabDoor
