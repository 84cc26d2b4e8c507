/- Least and At there and back: nothing but numbers. -/
import Derived.Test.YtfolecnjaaakeaaChainG
import Derived.Test.YtfolecnjaaakeaaRisesM
namespace Go.Proofs.Ytfolecnjaaakeaa
open Go.RowKit
set_option linter.unusedVariables false
set_option linter.unusedSimpArgs false

theorem least_facts {f : Nat → Nat} {F L : Nat} (hF : F < 4294967296) (hL : L < 4294967296) (hk : keyN F < keyN L) (h : Climbs f F L) (y : Nat) :
    (lpE f L y = 43 ∧ lpX f F L y = 0 ∧ lpB f F L y = 0 ∧ lpH f F L y = false ∧ comesB f L y = false) ∨
    (lpE f L y = 0 ∧ comesB f (lpX f F L y) y = true ∧ nanN (f (lpX f F L y)) = false ∧ comesB f L y = true ∧ ((lpH f F L y = false ∧ lpX f F L y = F) ∨ (lpH f F L y = true ∧ comesB f (lpB f F L y) y = false ∧ nanN (f (lpB f F L y)) = false))) := by
  have kL := keyN_lt hL
  have pL : placeN F (keyN L - keyN F) = L := (place_key hL (by omega)).symm
  cases hc : comesB f L y
  · left
    unfold lpE lpX lpB lpH
    rw [hc]
    exact ⟨rfl, rfl, rfl, rfl, rfl⟩
  · right
    obtain ⟨b1, b2, b3, b4⟩ := bis_facts (fun i => comesB f (placeN F i) y) (keyN L - keyN F) 0 (keyN L - keyN F) rfl (Nat.zero_le _)
    obtain ⟨R, hR⟩ : ∃ R, lN f F L y = R := ⟨_, rfl⟩
    have hR' : bis (fun i => comesB f (placeN F i) y) (keyN L - keyN F - 0) 0 (keyN L - keyN F) = R := hR
    rw [hR'] at b1 b2 b3 b4
    have e1 : lpE f L y = 0 := by unfold lpE; rw [hc]; rfl
    have e2 : lpX f F L y = placeN F R := by unfold lpX; rw [hc, hR]; rfl
    have e3 : lpB f F L y = if R = 0 then 0 else placeN F (R - 1) := by unfold lpB; rw [hc, hR]; rfl
    have e4 : lpH f F L y = decide (R ≠ 0) := by unfold lpH; rw [hc, hR]; rfl
    have pR : comesB f (placeN F R) y = true := by
      rcases b3 with b3 | b3
      · rw [b3, pL]; exact hc
      · exact b3
    rw [e1, e2, e3, e4]
    refine ⟨rfl, pR, h.num R (by omega), rfl, ?_⟩
    by_cases r0 : R = 0
    · left; rw [r0, place_0 hF]; exact ⟨decide_eq_false (by omega), rfl⟩
    · right
      rw [if_neg r0]
      refine ⟨decide_eq_true r0, ?_, h.num (R - 1) (by omega)⟩
      rcases b4 with b4 | b4
      · omega
      · exact b4
/-- Where it comes to what it has at a place: there, or ahead of it. -/
theorem least_at {f : Nat → Nat} {F L : Nat} (hF : F < 4294967296) (hL : L < 4294967296) (hk : keyN F < keyN L) (h : Climbs f F L) {x : Nat} (hx : x < 4294967296) (h1 : keyN F ≤ keyN x) (h2 : keyN x ≤ keyN L) :
    lpE f L (f x) = 0 ∧ keyN (lpX f F L (f x)) ≤ keyN x := by
  have kL := keyN_lt hL
  have pL : placeN F (keyN L - keyN F) = L := (place_key hL (by omega)).symm
  have px := place_key (F := F) hx h1
  have nx : nanN (f x) = false := by rw [px]; exact h.num _ (by omega)
  have cx : comesB f x (f x) = true := by rw [comes_iff nx, nx, lessB_num nx nx]; simp
  have cp : comesB f (placeN F (keyN x - keyN F)) (f x) = true := by rw [← px]; exact cx
  have cL : comesB f L (f x) = true := by
    have := h.up (y := f x) (i := keyN x - keyN F) (j := keyN L - keyN F) (by omega) (by omega) cp
    rw [pL] at this; exact this
  obtain ⟨b1, b2, b3, b4⟩ := bis_facts (fun i => comesB f (placeN F i) (f x)) (keyN L - keyN F) 0 (keyN L - keyN F) rfl (Nat.zero_le _)
  obtain ⟨R, hR⟩ : ∃ R, lN f F L (f x) = R := ⟨_, rfl⟩
  have hR' : bis (fun i => comesB f (placeN F i) (f x)) (keyN L - keyN F - 0) 0 (keyN L - keyN F) = R := hR
  rw [hR'] at b1 b2 b3 b4
  have e1 : lpE f L (f x) = 0 := by unfold lpE; rw [cL]; rfl
  have e2 : lpX f F L (f x) = placeN F R := by unfold lpX; rw [cL, hR]; rfl
  rw [e1, e2, key_place (by omega)]
  refine ⟨rfl, ?_⟩
  rcases b4 with b4 | b4
  · omega
  · apply Nat.le_of_not_lt
    intro hlt
    have := h.up (y := f x) (i := keyN x - keyN F) (j := R - 1) (by omega) (by omega) cp
    rw [this] at b4
    exact absurd b4 (by decide)
theorem comes_ge {f : Nat → Nat} {x y : Nat} (hn : nanN (f x) = false) (h : comesB f x y = true) : nanN y = false ∧ (Ieee.single.order (f x) y = some .gt ∨ Ieee.single.order (f x) y = some .eq) := by
  rw [comes_iff hn] at h
  cases hy : nanN y
  · rw [hy, lessB_num hn hy] at h
    have : ¬ srung32 (f x) < srung32 y := by simpa using h
    exact ⟨rfl, order_ge hn hy (by omega)⟩
  · rw [hy] at h; exact absurd h (by simp)
theorem comes_lt {f : Nat → Nat} {x y : Nat} (hn : nanN (f x) = false) (hy : nanN y = false) (h : comesB f x y = false) : srung32 (f x) < srung32 y := by
  rw [comes_iff hn, hy, lessB_num hn hy] at h
  simpa using h
end Go.Proofs.Ytfolecnjaaakeaa
