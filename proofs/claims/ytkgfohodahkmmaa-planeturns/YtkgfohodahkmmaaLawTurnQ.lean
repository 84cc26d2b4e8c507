/- What is said of flips and turns: of every plane. -/
import Derived.Test.YtkgfohodahkmmaaLawTurnP
namespace Go.Proofs.Ytkgfohodahkmmaa
open Go.RowKit
set_option linter.unusedVariables false
set_option linter.unusedSimpArgs false

/-- A plane that Check takes. -/
theorem pl_of {w : World} {W H : Int} {sv : Value} {S : List Nat} (hS : USl w sv S) (hz : chk W H S.length = 0) :
    ∃ a b g o cap : Nat, W = a ∧ H = b ∧ sv = .slice (some ⟨g, o, none⟩) S.length cap ∧ Pl w g o S.length cap a b S := by
  obtain ⟨a, b, rfl, rfl, hs, hn⟩ := chk_zero hz
  obtain ⟨g, o, cap, rfl, h2, h3⟩ := hS.some (by rw [hn]; exact hs.pos)
  exact ⟨a, b, g, o, cap, rfl, rfl, rfl, hs, hn, rfl, h2, h3⟩
set_option maxHeartbeats 4000000 in
set_option maxRecDepth 100000 in
theorem turnsP_bad (W H : Int) (av : Option Addr) (n cap : Nat) (hn : n ≤ 9223372036854775807) (hz : chk W H n ≠ 0) (A0 B0 : Int) (w : World) :
    Calls Try.prog 8 #[.agg #[.int .i64 W, .int .i64 H, .slice av n cap], .int .i64 A0, .int .i64 B0] w fun e w' => e = .returned (.bool true) ∧ Q w w' := by
  have RC := fun w : World => rcheck_any W H av n cap hn w
  have CC := fun w : World => check_any W H av n cap hn w
  have hb : (chk W H n != 0) = true := by rw [bne_iff_ne]; exact hz
  generalize chk W H n = r at RC CC hb
  have NN := fun w : World => num_any r w
  obtain ⟨w1, hw1⟩ : ∃ w1, w.alloc (.cells #[.int .i64 W, .int .i64 H, .slice av n cap] 25) = w1 := ⟨_, rfl⟩
  have QT : Q w w1 := by rw [← hw1]; exact (Q.refl w).cells _ _
  have c0 : w1.cell? ⟨w.heap.size, 0, none⟩ = some (.int .i64 W) := by rw [← hw1]; simp [go_sem]
  have c1 : w1.cell? ⟨w.heap.size, 1, none⟩ = some (.int .i64 H) := by rw [← hw1]; simp [go_sem]
  have c2 : w1.cell? ⟨w.heap.size, 2, none⟩ = some (.slice av n cap) := by rw [← hw1]; simp [go_sem]
  have K := known_any w1
  go_enter Try.func8, Try.ntmps8
  go_wp2_with fail
  clear hw1
  refine K.mono ?_
  rintro e w2 ⟨rfl, k2⟩
  replace c0 := k2.cell c0
  replace c1 := k2.cell c1
  replace c2 := k2.cell c2
  replace QT := QT.trans k2
  clear K k2
  go_wp2_with fail
  refine (RC _).mono ?_
  rintro e w3 ⟨rfl, k3⟩
  replace c0 := k3.cell c0
  replace c1 := k3.cell c1
  replace c2 := k3.cell c2
  replace QT := QT.trans k3
  clear k3
  go_wp2_with fail
  refine (CC _).mono ?_
  rintro e w4 ⟨rfl, k4⟩
  go_wp2_with fail
  refine (NN _).mono ?_
  rintro e w5 ⟨rfl, rfl⟩
  go_wp2_with fail
  go_ret
  exact ⟨rfl, QT.trans k4⟩
theorem turnsP_walk (W H : Int) (sv : Value) (S : List Nat) (A0 B0 : Int) (w : World) (hS : USl w sv S) (hn : S.length ≤ 9223372036854775807) :
    Calls Try.prog 8 #[.agg #[.int .i64 W, .int .i64 H, sv], .int .i64 A0, .int .i64 B0] w fun e w' => e = .returned (.bool true) ∧ Q w w' := by
  by_cases hz : chk W H S.length = 0
  · obtain ⟨a, b, g, o, cap, rfl, rfl, rfl, hp⟩ := pl_of hS hz
    exact turnsP_good a b g o cap S A0 B0 w hp
  · obtain ⟨av, cap, rfl⟩ := hS.form
    exact turnsP_bad W H av S.length cap hn hz A0 B0 w
end Go.Proofs.Ytkgfohodahkmmaa
