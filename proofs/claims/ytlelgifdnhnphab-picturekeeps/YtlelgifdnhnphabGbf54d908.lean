/- Affine and Between. -/
import Derived.Test.YtlelgifdnhnphabG6a3d6765
import Derived.Test.YtlelgifdnhnphabGd2bd5581
namespace Go.Proofs.Ytlelgifdnhnphab
open Go.RowKit
set_option linter.unusedVariables false
set_option linter.unusedSimpArgs false

def affineV (A B s : Nat) : Nat := toldD (fmaD s A B)
def boundsV (lo hi s : Nat) : Nat := (leastV (greatestV (s : Int) lo) hi).toNat
theorem greatV_bd {a b : Int} (a0 : 0 ≤ a) (a1 : a ≤ 4294967295) (b0 : 0 ≤ b) (b1 : b ≤ 4294967295) : 0 ≤ greatestV a b ∧ greatestV a b ≤ 4294967295 := by unfold greatestV; split <;> omega
theorem leastV_bd {a b : Int} (a0 : 0 ≤ a) (a1 : a ≤ 4294967295) (b0 : 0 ≤ b) (b1 : b ≤ 4294967295) : 0 ≤ leastV a b ∧ leastV a b ≤ 4294967295 := by unfold leastV; split <;> omega
set_option maxHeartbeats 1000000 in
theorem affine_fun (A B : Nat) (hA : A < 4294967296) (hB : B < 4294967296) : Fun1 19 (.agg #[.int .u32 (A : Int), .int .u32 (B : Int)]) (affineV A B) where
  en := enters_of Try.func19 (by kernel_rfl) rfl
  lt := fun s _ => toldD_lt _
  c := fun s hs w => by
    have qa : Hid (∀ c t, Q w (w.alloc (.cells c t))) := fun c t => (Q.refl w).cells c t
    have HC : Hid (∀ w : World, Calls Try.prog 33 #[.int .u32 (s : Int), .int .u32 (A : Int), .int .u32 (B : Int)] w fun e w' => e = .returned (.int .u32 ((affineV A B s : Nat) : Int)) ∧ Q w w') := fun w => cfma_any s A B w
    generalize affineV A B s = z at *
    go_enter Try.func19, Try.ntmps19
    go_wp2_with fail
    refine (HC.out _).mono ?_
    rintro e w1 ⟨rfl, q1⟩
    go_wp2_with fail
    go_ret
    exact ⟨rfl, (qa.out _ _).trans q1⟩
set_option maxHeartbeats 1000000 in
theorem between_any (s lo hi : Int) (a0 : 0 ≤ s) (a1 : s ≤ 4294967295) (b0 : 0 ≤ lo) (b1 : lo ≤ 4294967295) (c0 : 0 ≤ hi) (c1 : hi ≤ 4294967295) (w : World) : Calls Try.prog 45 #[.int .u32 s, .int .u32 lo, .int .u32 hi] w fun e w' => e = .returned (.int .u32 (leastV (greatestV s lo) hi)) ∧ w' = w := by
  obtain ⟨g0, g1⟩ := greatV_bd a0 a1 b0 b1
  have HG : Hid (∀ w : World, Calls Try.prog 44 #[.int .u32 s, .int .u32 lo] w fun e w' => e = .returned (.int .u32 (greatestV s lo)) ∧ w' = w) := fun w => greatest_any s lo a0 a1 b0 b1 w
  generalize greatestV s lo = z at *
  have HL : Hid (∀ w : World, Calls Try.prog 43 #[.int .u32 z, .int .u32 hi] w fun e w' => e = .returned (.int .u32 (leastV z hi)) ∧ w' = w) := fun w => least_any z hi g0 g1 c0 c1 w
  generalize leastV z hi = y at *
  go_enter Try.func45, Try.ntmps45
  go_wp2_with fail
  refine (HG.out _).mono ?_
  rintro e w1 ⟨rfl, rfl⟩
  go_wp2_with fail
  refine (HL.out _).mono ?_
  rintro e w1 ⟨rfl, rfl⟩
  go_wp2_with fail
  go_ret
  exact ⟨rfl, rfl⟩
set_option maxHeartbeats 1000000 in
theorem bounds_fun (A B : Nat) (hA : A < 4294967296) (hB : B < 4294967296) : Fun1 30 (.agg #[.int .u32 (A : Int), .int .u32 (B : Int)]) (boundsV A B) where
  en := enters_of Try.func30 (by kernel_rfl) rfl
  lt := fun s hs => by
    obtain ⟨g0, g1⟩ := greatV_bd (a := (s : Int)) (b := (A : Int)) (by omega) (by omega) (by omega) (by omega)
    obtain ⟨l0, l1⟩ := leastV_bd (b := (B : Int)) g0 g1 (by omega) (by omega)
    unfold boundsV
    omega
  c := fun s hs w => by
    obtain ⟨g0, g1⟩ := greatV_bd (a := (s : Int)) (b := (A : Int)) (by omega) (by omega) (by omega) (by omega)
    obtain ⟨l0, l1⟩ := leastV_bd (b := (B : Int)) g0 g1 (by omega) (by omega)
    have qa : Hid (∀ c t, Q w (w.alloc (.cells c t))) := fun c t => (Q.refl w).cells c t
    have hz : ((boundsV A B s : Nat) : Int) = leastV (greatestV (s : Int) A) B := by unfold boundsV; omega
    have HC : Hid (∀ w : World, Calls Try.prog 45 #[.int .u32 (s : Int), .int .u32 (A : Int), .int .u32 (B : Int)] w fun e w' => e = .returned (.int .u32 ((boundsV A B s : Nat) : Int)) ∧ w' = w) := fun w => by rw [hz]; exact between_any s A B (by omega) (by omega) (by omega) (by omega) (by omega) (by omega) w
    generalize boundsV A B s = z at *
    clear hz g0 g1 l0 l1
    go_enter Try.func30, Try.ntmps30
    go_wp2_with fail
    refine (HC.out _).mono ?_
    rintro e w1 ⟨rfl, rfl⟩
    go_wp2_with fail
    go_ret
    exact ⟨rfl, qa.out _ _⟩
set_option maxHeartbeats 1000000 in
set_option maxRecDepth 100000 in
theorem affine_good (A B : Nat) (hA : A < 4294967296) (hB : B < 4294967296) (w : World) (sp k : Int) (g o cap a b n : Nat) (L : List PL) (h : Pc w g o a b L) (hn : L.length = n) (hcap : n ≤ cap) (hsp : spcB sp n = true) (hk : k = -1 ∨ (0 ≤ k ∧ k < n)) :
    Calls Try.prog 7 #[.agg #[.int .i64 sp, .slice (some ⟨g, o, none⟩) n cap], .int .i64 k, .int .u32 (A : Int), .int .u32 (B : Int)] w fun e w' => ∃ g' cap' M, e = .returned (.tuple #[.agg #[.int .i64 sp, .slice (some ⟨g', 0, none⟩) n cap'], .int .i64 0]) ∧ M.map PL.S = chgL (affineV A B) k 0 (L.map PL.S) ∧ Hid (Nw w.heap.size w' g' cap' a b M) ∧ Q w w' := by
  have qa : Hid (∀ a b c d, Q w ((w.alloc (.cells a b)).alloc (.cells c d))) := fun a b c d => ((Q.refl w).cells _ _).cells _ _
  have HP : Hid (Pc w g o a b L) := h
  have HF : Hid (Fun1 19 (.agg #[.int .u32 (A : Int), .int .u32 (B : Int)]) (affineV A B)) := affine_fun A B hA hB
  have HN : Hid (L.length = n) := hn
  have HSP : Hid (spcB sp n = true) := hsp
  have HK : Hid (k = -1 ∨ (0 ≤ k ∧ k < n)) := hk
  clear h hn hsp hk
  go_enter Try.func7, Try.ntmps7
  go_wp2_with fail
  refine (change_good 19 (.agg #[.int .u32 (A : Int), .int .u32 (B : Int)]) (affineV A B) HF.out _ sp k g o cap a b n L (HP.out.next (qa.out _ _ _ _)) HN.out hcap HSP.out HK.out).mono ?_
  rintro e w3 ⟨g3, cap3, M, rfl, hM, HW, q3⟩
  have r0 : w3.cell? ⟨w.heap.size + 1, 0, none⟩ = some (.int .i64 0) := q3.cell (by simp [go_sem])
  have r1 : w3.cell? ⟨w.heap.size + 1, 1, none⟩ = some (.slice none 0 0) := q3.cell (by simp [go_sem])
  have rf : ∀ j, w3.frozen? ⟨w.heap.size + 1, j, none⟩ = false := fun j => (q3.2 _).trans (by simp [go_sem])
  have HQ3 : Hid (Q w w3) := (qa.out _ _ _ _).trans q3
  have HM : Hid (M.map PL.S = chgL (affineV A B) k 0 (L.map PL.S)) := hM
  have HW' : Hid (Nw (w.heap.size + 2) w3 g3 cap3 a b M) := HW.out.mono (by simp)
  clear q3 hM HW
  go_wp2_with fail
  have F9 : Fr w3 ((w3.setCell ⟨w.heap.size + 1, 0, none⟩ (.int .i64 sp)).setCell ⟨w.heap.size + 1, 1, none⟩ (.slice (some ⟨g3, 0, none⟩) n cap3)) (fun b => b ≠ w.heap.size + 1) := ((Fr.refl w3 _).set (fun h => h rfl) _).set (fun h => h rfl) _
  refine bodyPost_ret (v := .tuple #[.agg #[.int .i64 sp, .slice (some ⟨g3, 0, none⟩) n cap3], .int .i64 0]) (by simp [results, Try.results7, go_sem, r0, r1]) rfl ⟨g3, cap3, M, rfl, HM.out, (HW'.out.keep F9 (by have := HW'.out.low; omega) (fun x hx => by have := (HW'.out.it x hx).1.low; omega)).mono (by omega), (HQ3.out.set (by show _ ≤ w.heap.size + 1; omega) _).set (by show _ ≤ w.heap.size + 1; omega) _⟩
set_option maxHeartbeats 1000000 in
set_option maxRecDepth 100000 in
theorem bounds_good (A B : Nat) (hA : A < 4294967296) (hB : B < 4294967296) (w : World) (sp k : Int) (g o cap a b n : Nat) (L : List PL) (h : Pc w g o a b L) (hn : L.length = n) (hcap : n ≤ cap) (hsp : spcB sp n = true) (hk : k = -1 ∨ (0 ≤ k ∧ k < n)) :
    Calls Try.prog 12 #[.agg #[.int .i64 sp, .slice (some ⟨g, o, none⟩) n cap], .int .i64 k, .int .u32 (A : Int), .int .u32 (B : Int)] w fun e w' => ∃ g' cap' M, e = .returned (.tuple #[.agg #[.int .i64 sp, .slice (some ⟨g', 0, none⟩) n cap'], .int .i64 0]) ∧ M.map PL.S = chgL (boundsV A B) k 0 (L.map PL.S) ∧ Hid (Nw w.heap.size w' g' cap' a b M) ∧ Q w w' := by
  have qa : Hid (∀ a b c d, Q w ((w.alloc (.cells a b)).alloc (.cells c d))) := fun a b c d => ((Q.refl w).cells _ _).cells _ _
  have HP : Hid (Pc w g o a b L) := h
  have HF : Hid (Fun1 30 (.agg #[.int .u32 (A : Int), .int .u32 (B : Int)]) (boundsV A B)) := bounds_fun A B hA hB
  have HN : Hid (L.length = n) := hn
  have HSP : Hid (spcB sp n = true) := hsp
  have HK : Hid (k = -1 ∨ (0 ≤ k ∧ k < n)) := hk
  clear h hn hsp hk
  go_enter Try.func12, Try.ntmps12
  go_wp2_with fail
  refine (change_good 30 (.agg #[.int .u32 (A : Int), .int .u32 (B : Int)]) (boundsV A B) HF.out _ sp k g o cap a b n L (HP.out.next (qa.out _ _ _ _)) HN.out hcap HSP.out HK.out).mono ?_
  rintro e w3 ⟨g3, cap3, M, rfl, hM, HW, q3⟩
  have r0 : w3.cell? ⟨w.heap.size + 1, 0, none⟩ = some (.int .i64 0) := q3.cell (by simp [go_sem])
  have r1 : w3.cell? ⟨w.heap.size + 1, 1, none⟩ = some (.slice none 0 0) := q3.cell (by simp [go_sem])
  have rf : ∀ j, w3.frozen? ⟨w.heap.size + 1, j, none⟩ = false := fun j => (q3.2 _).trans (by simp [go_sem])
  have HQ3 : Hid (Q w w3) := (qa.out _ _ _ _).trans q3
  have HM : Hid (M.map PL.S = chgL (boundsV A B) k 0 (L.map PL.S)) := hM
  have HW' : Hid (Nw (w.heap.size + 2) w3 g3 cap3 a b M) := HW.out.mono (by simp)
  clear q3 hM HW
  go_wp2_with fail
  have F9 : Fr w3 ((w3.setCell ⟨w.heap.size + 1, 0, none⟩ (.int .i64 sp)).setCell ⟨w.heap.size + 1, 1, none⟩ (.slice (some ⟨g3, 0, none⟩) n cap3)) (fun b => b ≠ w.heap.size + 1) := ((Fr.refl w3 _).set (fun h => h rfl) _).set (fun h => h rfl) _
  refine bodyPost_ret (v := .tuple #[.agg #[.int .i64 sp, .slice (some ⟨g3, 0, none⟩) n cap3], .int .i64 0]) (by simp [results, Try.results12, go_sem, r0, r1]) rfl ⟨g3, cap3, M, rfl, HM.out, (HW'.out.keep F9 (by have := HW'.out.low; omega) (fun x hx => by have := (HW'.out.it x hx).1.low; omega)).mono (by omega), (HQ3.out.set (by show _ ≤ w.heap.size + 1; omega) _).set (by show _ ≤ w.heap.size + 1; omega) _⟩
end Go.Proofs.Ytlelgifdnhnphab
