/- What is said of pieces: of every plane. -/
import Derived.Test.YtkgfohodahkmmabLawPieces
namespace Go.Proofs.Ytkgfohodahkmmab
open Go.RowKit
set_option linter.unusedVariables false
set_option linter.unusedSimpArgs false

theorem pl_of {w : World} {W H : Int} {sv : Value} {S : List Nat} (hS : USl w sv S) (hz : chk W H S.length = 0) :
    ∃ a b g o cap : Nat, W = a ∧ H = b ∧ sv = .slice (some ⟨g, o, none⟩) S.length cap ∧ Pl w g o S.length cap a b S := by
  obtain ⟨a, b, rfl, rfl, hs, hn⟩ := chk_zero hz
  obtain ⟨g, o, cap, rfl, h2, h3⟩ := hS.some (by rw [hn]; exact hs.pos)
  exact ⟨a, b, g, o, cap, rfl, rfl, rfl, hs, hn, rfl, h2, h3⟩
theorem pieces_walk (W H : Int) (sv : Value) (S : List Nat) (x0 y0 x1 y1 X0 Y0 X1 Y1 k l t : Int) (bl : -9223372036854775808 ≤ l ∧ l ≤ 9223372036854775807) (w : World) (hS : USl w sv S) (hn : S.length ≤ 9223372036854775807) :
    Calls Try.prog 3 #[.agg #[.int .i64 W, .int .i64 H, sv], .agg #[.int .i64 x0, .int .i64 y0, .int .i64 x1, .int .i64 y1], .agg #[.int .i64 X0, .int .i64 Y0, .int .i64 X1, .int .i64 Y1], .int .i64 k, .int .i64 l, .int .i64 t] w fun e w' => e = .returned (.bool true) ∧ Q w w' := by
  by_cases hz : chk W H S.length = 0
  · obtain ⟨a, b, g, o, cap, rfl, rfl, rfl, hp⟩ := pl_of hS hz
    cases hw : wiB x0 y0 x1 y1 a b
    · exact pieces_bad (a : Int) (b : Int) _ S.length cap hn x0 y0 x1 y1 X0 Y0 X1 Y1 k l t (Or.inr ⟨S, a, b, g, o, rfl, rfl, rfl, rfl, hp.size, hp.len, hw⟩) w
    · obtain ⟨rx, ry, c, d, rfl, rfl, hx1, hy1, hr⟩ := wiB_true.1 hw
      by_cases he : extE k l t 1 2 a b = 0
      · obtain ⟨hk, L, T, R, B, rfl, rfl, h1, h2, l2, t2, _, _, hsz⟩ := extE_zero he
        obtain rfl : R = 1 := by omega
        obtain rfl : B = 2 := by omega
        cases hw2 : wiB X0 Y0 X1 Y1 c d
        · exact pieces_01 a b g o S.length cap S rx ry c d x1 y1 X0 Y0 X1 Y1 k hr hx1 hy1 hw2 L T hk l2 t2 hsz w hp
        · obtain ⟨sx, sy, c2, d2, rfl, rfl, hX1, hY1, hr2⟩ := wiB_true.1 hw2
          exact pieces_11 a b g o S.length cap S rx ry c d x1 y1 X1 Y1 k hr hx1 hy1 sx sy c2 d2 hr2 hX1 hY1 L T hk l2 t2 hsz w hp
      · cases hw2 : wiB X0 Y0 X1 Y1 c d
        · exact pieces_00 a b g o S.length cap S rx ry c d x1 y1 X0 Y0 X1 Y1 k l t hr hx1 hy1 bl hw2 _ rfl he w hp
        · obtain ⟨sx, sy, c2, d2, rfl, rfl, hX1, hY1, hr2⟩ := wiB_true.1 hw2
          exact pieces_10 a b g o S.length cap S rx ry c d x1 y1 X1 Y1 k l t hr hx1 hy1 bl sx sy c2 d2 hr2 hX1 hY1 _ rfl he w hp
  · obtain ⟨av, cap, rfl⟩ := hS.form
    exact pieces_bad W H av S.length cap hn x0 y0 x1 y1 X0 Y0 X1 Y1 k l t (Or.inl hz) w
end Go.Proofs.Ytkgfohodahkmmab
