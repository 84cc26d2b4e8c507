/- Least and Check of a curve. -/
import Derived.Test.YtfolecnjaaakeaaCurvR
namespace Go.Proofs.Ytfolecnjaaakeaa
open Go.RowKit

set_option maxHeartbeats 1000000 in
theorem cleastm_any (b o : Nat) (l : List (Nat × Nat)) (hl : COk l) (y : Nat) (w : World) (hc : CIs w b o l) :
    Calls Try.prog 16 #[.pointer (some ⟨b, o, none⟩), .int .u32 y] w fun e w' => e = .returned (.tuple #[prV (lpX (atV l) (kx l 0) (kx l (l.length - 1)) y) (lpB (atV l) (kx l 0) (kx l (l.length - 1)) y) (lpH (atV l) (kx l 0) (kx l (l.length - 1)) y), .int .i64 (lpE (atV l) (kx l (l.length - 1)) y)]) ∧ Q w w' := by
  have HC : Hid (CIs w b o l) := hc
  clear hc
  obtain ⟨X, hX⟩ : ∃ X, lpX (atV l) (kx l 0) (kx l (l.length - 1)) y = X := ⟨_, rfl⟩
  obtain ⟨B, hB⟩ : ∃ B, lpB (atV l) (kx l 0) (kx l (l.length - 1)) y = B := ⟨_, rfl⟩
  obtain ⟨H, hH⟩ : ∃ H, lpH (atV l) (kx l 0) (kx l (l.length - 1)) y = H := ⟨_, rfl⟩
  obtain ⟨E, hE⟩ : ∃ E, lpE (atV l) (kx l (l.length - 1)) y = E := ⟨_, rfl⟩
  rw [hX, hB, hH, hE]
  have HX : Hid (lpX (atV l) (kx l 0) (kx l (l.length - 1)) y = X ∧ lpB (atV l) (kx l 0) (kx l (l.length - 1)) y = B ∧ lpH (atV l) (kx l 0) (kx l (l.length - 1)) y = H ∧ lpE (atV l) (kx l (l.length - 1)) y = E) := ⟨hX, hB, hH, hE⟩
  clear hX hB hH hE
  unfold prV
  go_enter Try.func16, Try.ntmps16
  go_wp2_with fail
  refine (curveleast_any b o l hl y _ (HC.out.next ((Q.refl w).cells _ _)) _ _ rfl rfl).mono ?_
  rintro e w1 ⟨rfl, q1⟩
  have r0 : w1.cell? ⟨w.heap.size, 0, none⟩ = some (.int .u32 0) := q1.cell (by simp [go_sem])
  have r1 : w1.cell? ⟨w.heap.size, 1, none⟩ = some (.int .u32 0) := q1.cell (by simp [go_sem])
  have r2 : w1.cell? ⟨w.heap.size, 2, none⟩ = some (.bool false) := q1.cell (by simp [go_sem])
  have z0 : w1.frozen? ⟨w.heap.size, 0, none⟩ = false := by rw [q1.2]; simp [go_sem]
  have z1 : w1.frozen? ⟨w.heap.size, 1, none⟩ = false := by rw [q1.2]; simp [go_sem]
  have z2 : w1.frozen? ⟨w.heap.size, 2, none⟩ = false := by rw [q1.2]; simp [go_sem]
  have hq : Q w w1 := ((Q.refl w).cells _ _).trans q1
  clear q1
  rw [HX.out.1, HX.out.2.1, HX.out.2.2.1, HX.out.2.2.2]
  unfold prV
  go_wp2_with fail
  refine bodyPost_ret (v := .tuple #[.agg #[.int .u32 X, .int .u32 B, .bool H], .int .i64 E]) (by simp [results, Try.results16, go_sem, r0, r1, r2]) rfl ⟨rfl, ?_⟩
  exact ((hq.set (Nat.le_refl _) _).set (Nat.le_refl _) _).set (Nat.le_refl _) _

/-- Whether a proof proves it. -/
def checkB (f : Nat → Nat) (first last y X B : Nat) (H : Bool) : Bool :=
  if keyN X < keyN first ∨ keyN last < keyN X ∨ comesB f X y = false ∨ H ≠ (X != first) then false
  else if H = false then B == 0 else (decide ((keyN X : Int) - (keyN B : Int) = 1)) && !comesB f B y
theorem check_no {f : Nat → Nat} {first last y X B : Nat} {H : Bool} (h : keyN X < keyN first ∨ keyN last < keyN X ∨ comesB f X y = false ∨ H ≠ (X != first)) : checkB f first last y X B H = false := by
  unfold checkB; rw [if_pos h]
theorem check_0 {f : Nat → Nat} {first last y X B : Nat} {H : Bool} (h : ¬ (keyN X < keyN first ∨ keyN last < keyN X ∨ comesB f X y = false ∨ H ≠ (X != first))) (hH : H = false) : checkB f first last y X B H = (B == 0) := by
  unfold checkB; rw [if_neg h, if_pos hH]
theorem check_1 {f : Nat → Nat} {first last y X B : Nat} {H : Bool} (h : ¬ (keyN X < keyN first ∨ keyN last < keyN X ∨ comesB f X y = false ∨ H ≠ (X != first))) (hH : H = true) : checkB f first last y X B H = ((decide ((keyN X : Int) - (keyN B : Int) = 1)) && !comesB f B y) := by
  unfold checkB; rw [if_neg h, if_neg (by rw [hH]; decide)]

set_option maxHeartbeats 4000000 in
theorem curvecheck_any (b o : Nat) (l : List (Nat × Nat)) (hl : COk l) (y X B : Nat) (H : Bool) (hX : X < 4294967296) (hB : B < 4294967296) (w : World) (hc : CIs w b o l) (F L : Nat) (hF : F = kx l 0) (hL : L = kx l (l.length - 1)) :
    Calls Try.prog 48 #[.iface 25 (.pointer (some ⟨b, o, none⟩)), .int .u32 y, .agg #[.int .u32 X, .int .u32 B, .bool H]] w fun e w' => e = .returned (.bool (checkB (atV l) F L y X B H)) ∧ Q w w' := by
  have hFl : F < 4294967296 := by rw [hF]; exact (hl.lt 0).1
  have hLl : L < 4294967296 := by rw [hL]; exact (hl.lt _).1
  have hkX := keyN_lt hX
  have hkB := keyN_lt hB
  have HE : Hid (kx l 0 = F ∧ kx l (l.length - 1) = L) := ⟨hF.symm, hL.symm⟩
  have HC : Hid (CIs w b o l) := hc
  have HL : Hid (COk l) := hl
  clear hF hL hc hl
  have hm : ∀ w : World, (method 220 25 (.pointer (some ⟨b, o, none⟩)) "halide/curve.ends").run Try.prog w = .ok (89, .pointer (some ⟨b, o, none⟩)) w := fun _ => by kernel_rfl
  go_enter Try.func48, Try.ntmps48
  go_wp2_with fail
  refine (ends_any b o l HL.out _ (HC.out.next ((Q.refl w).cells _ _))).mono ?_
  rintro e w1 ⟨rfl, q1⟩
  rw [HE.out.1, HE.out.2]
  have r0 : w1.cell? ⟨w.heap.size, 0, none⟩ = some (.int .u32 X) := q1.cell (by simp [go_sem])
  have r1 : w1.cell? ⟨w.heap.size, 1, none⟩ = some (.int .u32 B) := q1.cell (by simp [go_sem])
  have r2 : w1.cell? ⟨w.heap.size, 2, none⟩ = some (.bool H) := q1.cell (by simp [go_sem])
  have hq : Q w w1 := ((Q.refl w).cells _ _).trans q1
  clear q1
  go_wp2_with fail
  refine (befN_any X F hX hFl _).mono ?_
  rintro e w1' ⟨rfl, rfl⟩
  by_cases g1 : keyN X < keyN F
  · have G1 : Hid (keyN X < keyN F) := g1
    rw [decide_eq_true g1]
    clear g1
    go_wp2_with fail
    go_ret
    exact ⟨ret_bool (by rw [check_no (Or.inl G1.out)]), hq⟩
  · have G1 : Hid (¬ keyN X < keyN F) := g1
    rw [decide_eq_false g1]
    clear g1
    go_wp2_with fail
    refine (befN_any L X hLl hX _).mono ?_
    rintro e w1' ⟨rfl, rfl⟩
    by_cases g2 : keyN L < keyN X
    · have G2 : Hid (keyN L < keyN X) := g2
      rw [decide_eq_true g2]
      clear g2
      go_wp2_with fail
      go_ret
      exact ⟨ret_bool (by rw [check_no (Or.inr (Or.inl G2.out))]), hq⟩
    · have G2 : Hid (¬ keyN L < keyN X) := g2
      rw [decide_eq_false g2]
      clear g2
      go_wp2_with fail
      refine (comes_any b o l HL.out X y hX _ (HC.out.next hq)).mono ?_
      rintro e w2 ⟨rfl, q2⟩
      replace r0 := q2.cell r0
      replace r1 := q2.cell r1
      replace r2 := q2.cell r2
      replace hq := hq.trans q2
      clear q2
      cases g3 : comesB (atV l) X y
      · have G3 : Hid (comesB (atV l) X y = false) := g3
        clear g3
        go_wp2_with fail
        go_ret
        exact ⟨ret_bool (by rw [check_no (Or.inr (Or.inr (Or.inl G3.out)))]), hq⟩
      · have G3 : Hid (comesB (atV l) X y = true) := g3
        clear g3
        have hXF : ((X : Int) != (F : Int)) = (X != F) := by
          by_cases h : X = F
          · subst h; simp
          · rw [bne_iff_ne.2 h, bne_iff_ne]; omega
        generalize hN : (X != F) = N at hXF
        have HN : Hid ((X != F) = N) := hN
        clear hN
        cases H <;> cases N
        · go_wp2_with fail
          go_ret
          refine ⟨ret_bool ?_, hq⟩
          rw [check_0 (fun h => ?_) rfl]
          · by_cases h : B = 0
            · subst h; rfl
            · rw [beq_eq_false_iff_ne.2 h, beq_eq_false_iff_ne]; omega
          · rcases h with h | h | h | h
            · exact G1.out h
            · exact G2.out h
            · rw [G3.out] at h; cases h
            · exact h HN.out.symm
        · go_wp2_with fail
          go_ret
          exact ⟨ret_bool (by rw [check_no (Or.inr (Or.inr (Or.inr (by rw [HN.out]; decide))))]), hq⟩
        · go_wp2_with fail
          go_ret
          exact ⟨ret_bool (by rw [check_no (Or.inr (Or.inr (Or.inr (by rw [HN.out]; decide))))]), hq⟩
        · have no : Hid (¬ (keyN X < keyN F ∨ keyN L < keyN X ∨ comesB (atV l) X y = false ∨ true ≠ (X != F))) := fun h => by
            rcases h with h | h | h | h
            · exact G1.out h
            · exact G2.out h
            · rw [G3.out] at h; cases h
            · exact h HN.out.symm
          go_wp2_with fail
          refine (apart_any B X hB hX _).mono ?_
          rintro e w2' ⟨rfl, rfl⟩
          by_cases g4 : (keyN X : Int) - (keyN B : Int) = 1
          · have G4 : Hid ((keyN X : Int) - (keyN B : Int) = 1) := g4
            rw [g4]
            clear g4
            go_wp2_with fail
            refine (comes_any b o l HL.out B y hB _ (HC.out.next hq)).mono ?_
            rintro e w3 ⟨rfl, q3⟩
            go_wp2_with fail
            go_ret
            exact ⟨ret_bool (by rw [check_1 no.out rfl, decide_eq_true G4.out]; rfl), hq.trans q3⟩
          · have G4 : Hid (¬ (keyN X : Int) - (keyN B : Int) = 1) := g4
            have g5 : ((keyN X : Int) - (keyN B : Int) == 1) = false := beq_eq_false_iff_ne.2 g4
            clear g4
            go_wp2_with fail
            go_ret
            exact ⟨ret_bool (by rw [check_1 no.out rfl, decide_eq_false G4.out]; rfl), hq⟩

set_option maxHeartbeats 1000000 in
theorem ccheckm_any (b o : Nat) (l : List (Nat × Nat)) (hl : COk l) (y X B : Nat) (H : Bool) (hX : X < 4294967296) (hB : B < 4294967296) (w : World) (hc : CIs w b o l) :
    Calls Try.prog 17 #[.pointer (some ⟨b, o, none⟩), .int .u32 y, prV X B H] w fun e w' => e = .returned (.bool (checkB (atV l) (kx l 0) (kx l (l.length - 1)) y X B H)) ∧ Q w w' := by
  have HC : Hid (CIs w b o l) := hc
  clear hc
  unfold prV
  go_enter Try.func17, Try.ntmps17
  go_wp2_with fail
  refine (curvecheck_any b o l hl y X B H hX hB _ (HC.out.next ((Q.refl w).cells _ _)) _ _ rfl rfl).mono ?_
  rintro e w1 ⟨rfl, q1⟩
  go_wp2_with fail
  go_ret
  exact ⟨rfl, ((Q.refl w).cells _ _).trans q1⟩
end Go.Proofs.Ytfolecnjaaakeaa
