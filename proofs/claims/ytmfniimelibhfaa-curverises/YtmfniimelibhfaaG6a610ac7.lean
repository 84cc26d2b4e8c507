/- Curves one behind the other: Check. -/
import Derived.Test.YtmfniimelibhfaaG8a1d1fae
namespace Go.Proofs.Ytmfniimelibhfaa
open Go.RowKit
set_option linter.unusedVariables false

set_option maxHeartbeats 4000000 in
theorem ch_curvecheck_any (b : Nat) (ll : List (List (Nat × Nat))) (hl : LOk ll) (y X B : Nat) (H : Bool) (hX : X < 4294967296) (hB : B < 4294967296) (w : World) (hc : ChIs w b ll) (F L : Nat) (hF : F = kx (ll.getD 0 []) 0) (hL : L = kx (ll.getD 0 []) ((ll.getD 0 []).length - 1)) :
    Calls Try.prog 48 #[.iface 56 (.pointer (some ⟨b, 0, none⟩)), .int .u32 y, .agg #[.int .u32 X, .int .u32 B, .bool H]] w fun e w' => e = .returned (.bool (checkB (chainV ll) F L y X B H)) ∧ Q w w' := by
  have hFl : F < 4294967296 := by rw [hF]; exact hl.first.1
  have hLl : L < 4294967296 := by rw [hL]; exact hl.first.2
  have hkX := keyN_lt hX
  have hkB := keyN_lt hB
  have HE : Hid (kx (ll.getD 0 []) 0 = F ∧ kx (ll.getD 0 []) ((ll.getD 0 []).length - 1) = L) := ⟨hF.symm, hL.symm⟩
  have HC : Hid (ChIs w b ll) := hc
  have HL : Hid (LOk ll) := hl
  clear hF hL hc hl
  have hm : ∀ w : World, (method 220 56 (.pointer (some ⟨b, 0, none⟩)) "halide/curve.ends").run Try.prog w = .ok (91, .pointer (some ⟨b, 0, none⟩)) w := fun _ => by kernel_rfl
  go_enter Try.func48, Try.ntmps48
  go_wp2_with fail
  refine (ch_ends_any b ll HL.out _ (HC.out.next ((Q.refl w).cells _ _))).mono ?_
  rintro e w1 ⟨rfl, q1⟩
  rw [HE.out.1, HE.out.2]
  have r0 : w1.cell? ⟨w.heap.size, 0, none⟩ = some (.int .u32 X) := q1.cell (by simp [go_sem])
  have r1 : w1.cell? ⟨w.heap.size, 1, none⟩ = some (.int .u32 B) := q1.cell (by simp [go_sem])
  have r2 : w1.cell? ⟨w.heap.size, 2, none⟩ = some (.bool H) := q1.cell (by simp [go_sem])
  have hq : Q w w1 := ((Q.refl w).cells _ _).trans q1
  clear q1
  go_wp2_with fail
  refine (befN_any X F hX hFl _).mono ?_
  rintro e w1' ⟨rfl, rfl⟩
  by_cases g1 : keyN X < keyN F
  · have G1 : Hid (keyN X < keyN F) := g1
    rw [decide_eq_true g1]
    clear g1
    go_wp2_with fail
    go_ret
    exact ⟨ret_bool (by rw [check_no (Or.inl G1.out)]), hq⟩
  · have G1 : Hid (¬ keyN X < keyN F) := g1
    rw [decide_eq_false g1]
    clear g1
    go_wp2_with fail
    refine (befN_any L X hLl hX _).mono ?_
    rintro e w1' ⟨rfl, rfl⟩
    by_cases g2 : keyN L < keyN X
    · have G2 : Hid (keyN L < keyN X) := g2
      rw [decide_eq_true g2]
      clear g2
      go_wp2_with fail
      go_ret
      exact ⟨ret_bool (by rw [check_no (Or.inr (Or.inl G2.out))]), hq⟩
    · have G2 : Hid (¬ keyN L < keyN X) := g2
      rw [decide_eq_false g2]
      clear g2
      go_wp2_with fail
      refine (ch_comes_any b ll HL.out X y hX _ (HC.out.next hq)).mono ?_
      rintro e w2 ⟨rfl, q2⟩
      replace r0 := q2.cell r0
      replace r1 := q2.cell r1
      replace r2 := q2.cell r2
      replace hq := hq.trans q2
      clear q2
      cases g3 : comesB (chainV ll) X y
      · have G3 : Hid (comesB (chainV ll) X y = false) := g3
        clear g3
        go_wp2_with fail
        go_ret
        exact ⟨ret_bool (by rw [check_no (Or.inr (Or.inr (Or.inl G3.out)))]), hq⟩
      · have G3 : Hid (comesB (chainV ll) X y = true) := g3
        clear g3
        have hXF : ((X : Int) != (F : Int)) = (X != F) := by
          by_cases h : X = F
          · subst h; simp
          · rw [bne_iff_ne.2 h, bne_iff_ne]; omega
        generalize hN : (X != F) = N at hXF
        have HN : Hid ((X != F) = N) := hN
        clear hN
        cases H <;> cases N
        · go_wp2_with fail
          go_ret
          refine ⟨ret_bool ?_, hq⟩
          rw [check_0 (fun h => ?_) rfl]
          · by_cases h : B = 0
            · subst h; rfl
            · rw [beq_eq_false_iff_ne.2 h, beq_eq_false_iff_ne]; omega
          · rcases h with h | h | h | h
            · exact G1.out h
            · exact G2.out h
            · rw [G3.out] at h; cases h
            · exact h HN.out.symm
        · go_wp2_with fail
          go_ret
          exact ⟨ret_bool (by rw [check_no (Or.inr (Or.inr (Or.inr (by rw [HN.out]; decide))))]), hq⟩
        · go_wp2_with fail
          go_ret
          exact ⟨ret_bool (by rw [check_no (Or.inr (Or.inr (Or.inr (by rw [HN.out]; decide))))]), hq⟩
        · have no : Hid (¬ (keyN X < keyN F ∨ keyN L < keyN X ∨ comesB (chainV ll) X y = false ∨ true ≠ (X != F))) := fun h => by
            rcases h with h | h | h | h
            · exact G1.out h
            · exact G2.out h
            · rw [G3.out] at h; cases h
            · exact h HN.out.symm
          go_wp2_with fail
          refine (apart_any B X hB hX _).mono ?_
          rintro e w2' ⟨rfl, rfl⟩
          by_cases g4 : (keyN X : Int) - (keyN B : Int) = 1
          · have G4 : Hid ((keyN X : Int) - (keyN B : Int) = 1) := g4
            rw [g4]
            clear g4
            go_wp2_with fail
            refine (ch_comes_any b ll HL.out B y hB _ (HC.out.next hq)).mono ?_
            rintro e w3 ⟨rfl, q3⟩
            go_wp2_with fail
            go_ret
            exact ⟨ret_bool (by rw [check_1 no.out rfl, decide_eq_true G4.out]; rfl), hq.trans q3⟩
          · have G4 : Hid (¬ (keyN X : Int) - (keyN B : Int) = 1) := g4
            have g5 : ((keyN X : Int) - (keyN B : Int) == 1) = false := beq_eq_false_iff_ne.2 g4
            clear g4
            go_wp2_with fail
            go_ret
            exact ⟨ret_bool (by rw [check_1 no.out rfl, decide_eq_false G4.out]; rfl), hq⟩
set_option maxHeartbeats 1000000 in
theorem ch_ccheckm_any (b : Nat) (ll : List (List (Nat × Nat))) (hl : LOk ll) (y X B : Nat) (H : Bool) (hX : X < 4294967296) (hB : B < 4294967296) (w : World) (hc : ChIs w b ll) :
    Calls Try.prog 30 #[.pointer (some ⟨b, 0, none⟩), .int .u32 y, prV X B H] w fun e w' => e = .returned (.bool (checkB (chainV ll) (kx (ll.getD 0 []) 0) (kx (ll.getD 0 []) ((ll.getD 0 []).length - 1)) y X B H)) ∧ Q w w' := by
  have HC : Hid (ChIs w b ll) := hc
  clear hc
  unfold prV
  go_enter Try.func30, Try.ntmps30
  go_wp2_with fail
  refine (ch_curvecheck_any b ll hl y X B H hX hB _ (HC.out.next ((Q.refl w).cells _ _)) _ _ rfl rfl).mono ?_
  rintro e w1 ⟨rfl, q1⟩
  go_wp2_with fail
  go_ret
  exact ⟨rfl, ((Q.refl w).cells _ _).trans q1⟩
theorem climbs_chain {ll : List (List (Nat × Nat))} (hl : LOk ll) : Climbs (chainV ll) (kx (ll.getD 0 []) 0) (kx (ll.getD 0 []) ((ll.getD 0 []).length - 1)) := by
  have t := hl.ok.two
  have a := hl.first.1
  have b := hl.first.2
  have c := (hl.ok.fin 0 (by omega)).1
  have d := (hl.ok.fin ((ll.getD 0 []).length - 1) (by omega)).1
  have e := keyN_lt b
  constructor
  · intro i hi
    have n := place_num a b c d hi
    exact (chain_num hl.all n (fkeyN_lt (by omega))).1
  · intro i j hij hj
    have n1 := place_num a b c d (show keyN (kx (ll.getD 0 []) 0) + i ≤ keyN (kx (ll.getD 0 []) ((ll.getD 0 []).length - 1)) by omega)
    have n2 := place_num a b c d hj
    refine chain_mono hl.all n1 n2 (key_srung (fkeyN_lt (by omega)) (fkeyN_lt (by omega)) ?_)
    rw [key_place (by omega), key_place (by omega)]
    omega
end Go.Proofs.Ytmfniimelibhfaa
