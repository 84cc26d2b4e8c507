/- Pieces of planes, pasted, cropped, extended. -/
import Derived.Test.YtkgfohodahkmmaaPlR
namespace Go.Proofs.Ytkgfohodahkmmaa
open Go.RowKit
set_option linter.unusedVariables false
set_option linter.unusedSimpArgs false

theorem paste_back {a b x0 y0 c d : Nat} {S : List Nat} (hl : S.length = a * b) (hr : Rct a b x0 y0 c d) : tab a b (pasV S a (crL a x0 y0 c d S) c d x0 y0) = S := by
  conv => rhs; rw [← tab_self hl]
  refine tab_ext fun x y hx hy => ?_
  unfold pasV
  by_cases h : (lieB (x : Int) (x0 : Int) (c : Int) && lieB (y : Int) (y0 : Int) (d : Int)) = true
  · rw [if_pos h]
    rw [Bool.and_eq_true] at h
    have h1 := lieB_true.1 h.1
    have h2 := lieB_true.1 h.2
    unfold crL
    rw [smp_tab (by omega) (by omega)]
    congr 1 <;> omega
  · rw [if_neg h]
theorem crop_crop {a b x0 y0 c d x1 y1 c' d' : Nat} {S : List Nat} (hr : Rct a b x0 y0 c d) (hr' : Rct c d x1 y1 c' d') : crL a (x0 + x1) (y0 + y1) c' d' S = crL c x1 y1 c' d' (crL a x0 y0 c d S) := by
  obtain ⟨h1, h2, h3, h4⟩ := hr'
  refine tab_ext fun x y hx hy => ?_
  unfold crL
  rw [smp_tab (by omega) (by omega)]
  congr 1 <;> omega
theorem rct_rct {a b x0 y0 c d x1 y1 c' d' : Nat} (hr : Rct a b x0 y0 c d) (hr' : Rct c d x1 y1 c' d') : Rct a b (x0 + x1) (y0 + y1) c' d' := by
  obtain ⟨h1, h2, h3, h4⟩ := hr'
  obtain ⟨g1, g2, g3, g4⟩ := hr
  exact ⟨h1, by omega, h3, by omega⟩
theorem crop_ext {a b l t r s : Nat} {k : Int} {S : List Nat} (hl : S.length = a * b) (hk : k = 1 ∨ k = 2 ∨ k = 3) : crL (l + a + r) l t a b (tab (l + a + r) (t + b + s) (extV S a b k l t)) = S := by
  conv => rhs; rw [← tab_self hl]
  refine tab_ext fun x y hx hy => ?_
  rw [smp_tab (by omega) (by omega)]
  unfold extV
  rw [show (((l + x : Nat) : Int) - (l : Int)) = (x : Int) by omega, show (((t + y : Nat) : Int) - (t : Int)) = (y : Int) by omega, borV_in hk (by omega) (by omega), borV_in hk (by omega) (by omega)]
  rfl
theorem crop_fail {w : World} {W H : Int} {av : Option Addr} {n cap : Nat} (hn : n ≤ 9223372036854775807) (x0 y0 x1 y1 : Int) (h : chk W H n ≠ 0 ∨ (∃ (S : List Nat) (a b g o : Nat), n = S.length ∧ W = a ∧ H = b ∧ av = some ⟨g, o, none⟩ ∧ Size a b ∧ S.length = a * b ∧ wiB x0 y0 x1 y1 a b = false)) :
    ∃ r : Int, r ≠ 0 ∧ Calls Try.prog 22 #[.agg #[.int .i64 W, .int .i64 H, .slice av n cap], .agg #[.int .i64 x0, .int .i64 y0, .int .i64 x1, .int .i64 y1]] w fun e w' => e = .returned (.tuple #[.agg #[.int .i64 0, .int .i64 0, .slice none 0 0], .int .i64 r]) ∧ Q w w' := by
  rcases h with h | ⟨S, a, b, g, o, rfl, rfl, rfl, rfl, hs, hl, h⟩
  · exact ⟨chk W H n, h, crop_bad W H av n cap hn rfl h x0 y0 x1 y1 w⟩
  · exact ⟨52, by decide, crop_out hs hl g o cap x0 y0 x1 y1 h w⟩
theorem ext_fail {w : World} {g o n cap a b : Nat} {S : List Nat} (h : Pl w g o n cap a b S) (k l t r1 b1 : Int) {r : Int} (hr : extE k l t r1 b1 a b = r) (h0 : r ≠ 0) :
    Calls Try.prog 35 #[.agg #[.int .i64 (a : Int), .int .i64 (b : Int), .slice (some ⟨g, o, none⟩) n cap], .int .i64 k, .int .i64 l, .int .i64 t, .int .i64 r1, .int .i64 b1] w fun e w' => e = .returned (.tuple #[.agg #[.int .i64 0, .int .i64 0, .slice none 0 0], .int .i64 r]) ∧ Q w w' := by
  have e := h.eq
  subst e
  unfold extE at hr
  by_cases hk : k = 1 ∨ k = 2 ∨ k = 3
  · rw [if_pos hk] at hr
    by_cases h1 : l < 0 ∨ t < 0 ∨ r1 < 0 ∨ b1 < 0
    · rw [if_pos h1] at hr
      subst hr
      exact ext_neg h.size h.len g o cap k l t r1 b1 hk h1 w
    · rw [if_neg h1] at hr
      by_cases h2 : 1024 < l ∨ 1024 < t ∨ 1024 < r1 ∨ 1024 < b1
      · rw [if_pos h2] at hr
        subst hr
        exact ext_far h.size h.len g o cap k l t r1 b1 hk h1 h2 w
      · rw [if_neg h2] at hr
        by_cases h3 : sizeB (l + a + r1) (t + b + b1) = true
        · rw [if_pos h3] at hr; exact absurd hr.symm h0
        · rw [if_neg h3] at hr
          subst hr
          exact ext_size h.size h.len g o cap k l t r1 b1 hk h1 h2 (by cases g : sizeB (l + a + r1) (t + b + b1); rfl; exact absurd g h3) w
  · rw [if_neg hk] at hr
    subst hr
    exact ext_kind h.size h.len g o cap k l t r1 b1 hk w
end Go.Proofs.Ytkgfohodahkmmaa
