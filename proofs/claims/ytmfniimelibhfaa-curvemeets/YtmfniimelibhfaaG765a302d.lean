/- Curves one behind the other: Least. -/
import Derived.Test.YtmfniimelibhfaaG8a1d1fae
namespace Go.Proofs.Ytmfniimelibhfaa
open Go.RowKit
set_option linter.unusedVariables false

set_option maxHeartbeats 4000000 in
theorem ch_curveleast_any (b : Nat) (ll : List (List (Nat × Nat))) (hl : LOk ll) (y : Nat) (w : World) (hc : ChIs w b ll) (F L : Nat) (hF : F = kx (ll.getD 0 []) 0) (hL : L = kx (ll.getD 0 []) ((ll.getD 0 []).length - 1)) :
    Calls Try.prog 47 #[.iface 56 (.pointer (some ⟨b, 0, none⟩)), .int .u32 y] w fun e w' => e = .returned (.tuple #[prV (lpX (chainV ll) F L y) (lpB (chainV ll) F L y) (lpH (chainV ll) F L y), .int .i64 (lpE (chainV ll) L y)]) ∧ Q w w' := by
  have hFl : F < 4294967296 := by rw [hF]; exact hl.first.1
  have hLl : L < 4294967296 := by rw [hL]; exact hl.first.2
  have hkk : keyN F < keyN L := by rw [hF, hL]; exact hl.keys
  have hkL := keyN_lt hLl
  have HE : Hid (kx (ll.getD 0 []) 0 = F ∧ kx (ll.getD 0 []) ((ll.getD 0 []).length - 1) = L) := ⟨hF.symm, hL.symm⟩
  have HC : Hid (ChIs w b ll) := hc
  have HL : Hid (LOk ll) := hl
  clear hF hL hc hl
  have hm : ∀ w : World, (method 220 56 (.pointer (some ⟨b, 0, none⟩)) "halide/curve.ends").run Try.prog w = .ok (91, .pointer (some ⟨b, 0, none⟩)) w := fun _ => by kernel_rfl
  go_enter Try.func47, Try.ntmps47
  go_wp2_with fail
  refine (ch_ends_any b ll HL.out _ (HC.out.next ((((Q.refl w).cells _ _).cells _ _).cells _ _))).mono ?_
  rintro e w1 ⟨rfl, q1⟩
  rw [HE.out.1, HE.out.2]
  have a1 : w1.cell? ⟨w.heap.size, 0, none⟩ = some (.iface 56 (.pointer (some ⟨b, 0, none⟩))) := q1.cell (by simp [go_sem])
  have a2 : w1.cell? ⟨w.heap.size + 1, 0, none⟩ = some (.int .u32 y) := q1.cell (by simp [go_sem])
  have r0 : w1.cell? ⟨w.heap.size + 1 + 1, 0, none⟩ = some (.int .u32 0) := q1.cell (by simp [go_sem])
  have r1 : w1.cell? ⟨w.heap.size + 1 + 1, 1, none⟩ = some (.int .u32 0) := q1.cell (by simp [go_sem])
  have r2 : w1.cell? ⟨w.heap.size + 1 + 1, 2, none⟩ = some (.bool false) := q1.cell (by simp [go_sem])
  have z0 : ∀ i, w1.frozen? ⟨w.heap.size + 1 + 1, i, none⟩ = false := fun i => by rw [q1.2]; simp [go_sem]
  have hq : Q w w1 := ((((Q.refl w).cells _ _).cells _ _).cells _ _).trans q1
  have a1' := fun c t => cell_1 a1 c t
  have a2' := fun c t => cell_1 a2 c t
  have s1 : w.heap.size + 1 + 1 + 1 ≤ w1.heap.size := by have := q1.1.size; simpa using this
  have n1 : w1.heap.size ≠ w.heap.size + 1 + 1 := by omega
  clear q1
  go_wp2_with fail
  refine (ch_comes_any b ll HL.out L y hLl _ (HC.out.next (hq.cells _ _))).mono ?_
  rintro e w2 ⟨rfl, q2⟩
  have a3 : w2.cell? ⟨w1.heap.size, 0, none⟩ = some (.int .u32 F) := q2.cell (by simp [go_sem])
  replace a1 := q2.cell (a1' _ _)
  replace a2 := q2.cell (a2' _ _)
  replace r0 := q2.cell (cell_1 r0 _ _)
  replace r1 := q2.cell (cell_1 r1 _ _)
  replace r2 := q2.cell (cell_1 r2 _ _)
  replace z0 : ∀ i, w2.frozen? ⟨w.heap.size + 1 + 1, i, none⟩ = false := fun i => by rw [q2.2, ((Q.refl w1).cells _ _).2]; exact z0 i
  have z1 := z0 0
  have z2 := z0 1
  have z3 := z0 2
  have s2 : w1.heap.size + 1 ≤ w2.heap.size := by have := q2.1.size; simpa using this
  have n2 : w2.heap.size ≠ w.heap.size + 1 + 1 := by omega
  replace hq := (hq.cells _ _).trans q2
  clear q2 a1' a2' z0 s1 s2
  cases hcm : comesB (chainV ll) L y
  · have HM : Hid (comesB (chainV ll) L y = false) := hcm
    clear hcm
    go_wp2_with fail
    refine bodyPost_ret (v := .tuple #[prV (lpX (chainV ll) F L y) (lpB (chainV ll) F L y) (lpH (chainV ll) F L y), .int .i64 (lpE (chainV ll) L y)]) ?_ rfl ⟨rfl, ?_⟩
    · unfold lpX lpB lpH lpE prV
      rw [HM.out]
      simp [results, Try.results47, go_sem, r0, r1, r2]
    · exact ((hq.set (by simp; omega) _).set (by simp; omega) _).set (by simp; omega) _
  · have HM : Hid (comesB (chainV ll) L y = true) := hcm
    clear hcm
    have a3' := fun c t => cell_1 a3 c t
    go_wp2_with fail
    refine (apart_any F L hFl hLl _).mono ?_
    rintro e w3' ⟨rfl, rfl⟩
    generalize hW : w2.alloc _ = w3
    have q3 : Q w2 w3 := by rw [← hW]; exact (Q.refl w2).cells _ _
    have a4 : w3.cell? ⟨w2.heap.size, 0, none⟩ = some (.func (.func 61) #[] #[.pointer (some ⟨w1.heap.size, 0, none⟩)]) := by rw [← hW]; simp [go_sem]
    clear hW
    replace a1 := q3.cell a1
    replace a2 := q3.cell a2
    replace a3 := q3.cell a3
    replace r0 := q3.cell r0
    replace r1 := q3.cell r1
    replace r2 := q3.cell r2
    have y1 : w3.frozen? ⟨w.heap.size + 1 + 1, 0, none⟩ = false := by rw [q3.2]; exact z1
    have y2 : w3.frozen? ⟨w.heap.size + 1 + 1, 1, none⟩ = false := by rw [q3.2]; exact z2
    have y3 : w3.frozen? ⟨w.heap.size + 1 + 1, 2, none⟩ = false := by rw [q3.2]; exact z3
    replace hq := hq.trans q3
    clear q3 z1 z2 z3 a3'
    have hA : ((keyN L : Int) - (keyN F : Int)) = ((keyN L - keyN F : Nat) : Int) := by omega
    rw [hA]
    clear hA
    go_wp2_with fail
    refine (search_any 65 #[.pointer (some ⟨w.heap.size, 0, none⟩), .pointer (some ⟨w2.heap.size, 0, none⟩), .pointer (some ⟨w.heap.size + 1, 0, none⟩)] (keyN L - keyN F) (fun i => comesB (chainV ll) (placeN F i) y) _ leastc_enters (by omega) (fun w' i q hi => ?_)).mono ?_
    · exact ch_leastc_any b w.heap.size w2.heap.size (w.heap.size + 1) w1.heap.size F i y ll HL.out hFl (by omega) w' (HC.out.next (hq.trans q)) (q.cell a1) (q.cell a4) (q.cell a2) (q.cell a3)
    rintro e w4 ⟨rfl, q4⟩
    obtain ⟨R, hR⟩ : ∃ R, R = lN (chainV ll) F L y := ⟨_, rfl⟩
    have hRle := lN_le (chainV ll) F L y
    rw [← hR] at hRle
    rw [show bis (fun i => comesB (chainV ll) (placeN F i) y) (keyN L - keyN F) 0 (keyN L - keyN F) = R from hR.symm]
    have HR : Hid (lN (chainV ll) F L y = R) := hR.symm
    clear hR
    replace a3 := q4.cell a3
    replace a4 := q4.cell a4
    replace r0 := q4.cell r0
    replace r1 := q4.cell r1
    replace r2 := q4.cell r2
    replace y1 : w4.frozen? ⟨w.heap.size + 1 + 1, 0, none⟩ = false := by rw [q4.2]; exact y1
    replace y2 : w4.frozen? ⟨w.heap.size + 1 + 1, 1, none⟩ = false := by rw [q4.2]; exact y2
    replace y3 : w4.frozen? ⟨w.heap.size + 1 + 1, 2, none⟩ = false := by rw [q4.2]; exact y3
    replace hq := hq.trans q4
    clear q4 a1 a2
    by_cases h0 : R = 0
    · subst h0
      go_wp2_with fail
      refine bodyPost_ret (v := .tuple #[prV (lpX (chainV ll) F L y) (lpB (chainV ll) F L y) (lpH (chainV ll) F L y), .int .i64 (lpE (chainV ll) L y)]) ?_ rfl ⟨rfl, ?_⟩
      · unfold lpX lpB lpH lpE prV
        rw [HM.out, HR.out, place_0 hFl]
        simp [results, Try.results47, go_sem, r0, r1, r2]
      · exact ((hq.set (by simp; omega) _).set (by simp; omega) _).set (by simp; omega) _
    · have hb0 : ((R : Int) == 0) = false := by simp; omega
      have P1 : Hid (∀ w', w'.cell? ⟨w1.heap.size, 0, none⟩ = some (.int .u32 F) → Calls Try.prog 61 #[.int .i64 (R : Int), .pointer (some ⟨w1.heap.size, 0, none⟩)] w' fun e w'' => e = .returned (.int .u32 (placeN F R : Nat)) ∧ w'' = w') := fun w' h => place_any w1.heap.size F R hFl (by omega) w' h
      obtain ⟨S, hS⟩ : ∃ S : Nat, S = R - 1 := ⟨_, rfl⟩
      have hS2 : keyN F + S < 4294967296 := by omega
      have P2 : Hid (∀ w', w'.cell? ⟨w1.heap.size, 0, none⟩ = some (.int .u32 F) → Calls Try.prog 61 #[.int .i64 (S : Int), .pointer (some ⟨w1.heap.size, 0, none⟩)] w' fun e w'' => e = .returned (.int .u32 (placeN F S : Nat)) ∧ w'' = w') := fun w' h => place_any w1.heap.size F S hFl hS2 w' h
      have H0 : Hid (R ≠ 0) := h0
      have i1 : (1 : Int) ≤ (R : Int) := by omega
      have i2 : (R : Int) ≤ 4294967296 := by omega
      have i3 : IntKind.i64.wrap ((R : Int) - 1) = (S : Int) := by rw [IntKind.wrap_i64]; omega
      have HS : Hid (S = R - 1) := hS
      clear hS
      clear h0
      go_wp2_with fail
      go_region_held3 (fun w' => w'.cell? ⟨w2.heap.size, 0, none⟩ = some (.func (.func 61) #[] #[.pointer (some ⟨w1.heap.size, 0, none⟩)]) ∧ w'.cell? ⟨w1.heap.size, 0, none⟩ = some (.int .u32 F)) (first | (refine ⟨?_, ?_⟩ <;> (show (World.setCell (World.setCell (World.setCell _ _ _) _ _) _ _).cell? _ = _; rw [set_other _ (by first | exact n1 | exact n2), set_other _ (by first | exact n1 | exact n2), set_other _ (by first | exact n1 | exact n2)]; first | exact a3 | exact a4)) | go_keep)
        (first | (go_at_call_of 61 S; refine (P2.out _ ?_).mono ?_; assumption; rintro e w' ⟨rfl, rfl⟩) | (go_at_call_of 61 R; refine (P1.out _ ?_).mono ?_; assumption; rintro e w' ⟨rfl, rfl⟩))
      all_goals
        go_wp2_with fail
        refine bodyPost_ret (v := .tuple #[prV (lpX (chainV ll) F L y) (lpB (chainV ll) F L y) (lpH (chainV ll) F L y), .int .i64 (lpE (chainV ll) L y)]) ?_ rfl ⟨rfl, ?_⟩
        · unfold lpX lpB lpH lpE prV
          rw [HM.out, HR.out, if_neg H0.out, decide_eq_true H0.out, ← HS.out]
          simp [results, Try.results47, go_sem, r0, r1, r2]
        · exact (((hq.set (by simp; omega) _).set (by simp; omega) _).set (by simp; omega) _).drew
set_option maxHeartbeats 1000000 in
theorem ch_cleastm_any (b : Nat) (ll : List (List (Nat × Nat))) (hl : LOk ll) (y : Nat) (w : World) (hc : ChIs w b ll) :
    Calls Try.prog 29 #[.pointer (some ⟨b, 0, none⟩), .int .u32 y] w fun e w' => e = .returned (.tuple #[prV (lpX (chainV ll) (kx (ll.getD 0 []) 0) (kx (ll.getD 0 []) ((ll.getD 0 []).length - 1)) y) (lpB (chainV ll) (kx (ll.getD 0 []) 0) (kx (ll.getD 0 []) ((ll.getD 0 []).length - 1)) y) (lpH (chainV ll) (kx (ll.getD 0 []) 0) (kx (ll.getD 0 []) ((ll.getD 0 []).length - 1)) y), .int .i64 (lpE (chainV ll) (kx (ll.getD 0 []) ((ll.getD 0 []).length - 1)) y)]) ∧ Q w w' := by
  have HC : Hid (ChIs w b ll) := hc
  clear hc
  obtain ⟨X, hX⟩ : ∃ X, lpX (chainV ll) (kx (ll.getD 0 []) 0) (kx (ll.getD 0 []) ((ll.getD 0 []).length - 1)) y = X := ⟨_, rfl⟩
  obtain ⟨B, hB⟩ : ∃ B, lpB (chainV ll) (kx (ll.getD 0 []) 0) (kx (ll.getD 0 []) ((ll.getD 0 []).length - 1)) y = B := ⟨_, rfl⟩
  obtain ⟨H, hH⟩ : ∃ H, lpH (chainV ll) (kx (ll.getD 0 []) 0) (kx (ll.getD 0 []) ((ll.getD 0 []).length - 1)) y = H := ⟨_, rfl⟩
  obtain ⟨E, hE⟩ : ∃ E, lpE (chainV ll) (kx (ll.getD 0 []) ((ll.getD 0 []).length - 1)) y = E := ⟨_, rfl⟩
  rw [hX, hB, hH, hE]
  have HX : Hid (lpX (chainV ll) (kx (ll.getD 0 []) 0) (kx (ll.getD 0 []) ((ll.getD 0 []).length - 1)) y = X ∧ lpB (chainV ll) (kx (ll.getD 0 []) 0) (kx (ll.getD 0 []) ((ll.getD 0 []).length - 1)) y = B ∧ lpH (chainV ll) (kx (ll.getD 0 []) 0) (kx (ll.getD 0 []) ((ll.getD 0 []).length - 1)) y = H ∧ lpE (chainV ll) (kx (ll.getD 0 []) ((ll.getD 0 []).length - 1)) y = E) := ⟨hX, hB, hH, hE⟩
  clear hX hB hH hE
  unfold prV
  go_enter Try.func29, Try.ntmps29
  go_wp2_with fail
  refine (ch_curveleast_any b ll hl y _ (HC.out.next ((Q.refl w).cells _ _)) _ _ rfl rfl).mono ?_
  rintro e w1 ⟨rfl, q1⟩
  have r0 : w1.cell? ⟨w.heap.size, 0, none⟩ = some (.int .u32 0) := q1.cell (by simp [go_sem])
  have r1 : w1.cell? ⟨w.heap.size, 1, none⟩ = some (.int .u32 0) := q1.cell (by simp [go_sem])
  have r2 : w1.cell? ⟨w.heap.size, 2, none⟩ = some (.bool false) := q1.cell (by simp [go_sem])
  have z0 : w1.frozen? ⟨w.heap.size, 0, none⟩ = false := by rw [q1.2]; simp [go_sem]
  have z1 : w1.frozen? ⟨w.heap.size, 1, none⟩ = false := by rw [q1.2]; simp [go_sem]
  have z2 : w1.frozen? ⟨w.heap.size, 2, none⟩ = false := by rw [q1.2]; simp [go_sem]
  have hq : Q w w1 := ((Q.refl w).cells _ _).trans q1
  clear q1
  rw [HX.out.1, HX.out.2.1, HX.out.2.2.1, HX.out.2.2.2]
  unfold prV
  go_wp2_with fail
  refine bodyPost_ret (v := .tuple #[.agg #[.int .u32 X, .int .u32 B, .bool H], .int .i64 E]) (by simp [results, Try.results29, go_sem, r0, r1, r2]) rfl ⟨rfl, ?_⟩
  exact ((hq.set (Nat.le_refl _) _).set (Nat.le_refl _) _).set (Nat.le_refl _) _
end Go.Proofs.Ytmfniimelibhfaa
