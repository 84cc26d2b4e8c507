/- A proof proves it exactly when it is what Least answers: nothing but numbers. -/
import Derived.Test.YtfolecnjaaakeaaCRefG
namespace Go.Proofs.Ytfolecnjaaakeaa
open Go.RowKit
set_option linter.unusedVariables false

theorem key_srung {a b : Nat} (ha : a < 4294967296) (hb : b < 4294967296) (h : keyN a ≤ keyN b) : srung32 a ≤ srung32 b := by
  by_cases g : srung32 b < srung32 a
  · have := key_of_srung hb ha g
    omega
  · omega
/-- What the search needs of a way from samples to samples. -/
structure Climbs (f : Nat → Nat) (F L : Nat) : Prop where
  num : ∀ i, keyN F + i ≤ keyN L → nanN (f (placeN F i)) = false
  mono : ∀ i j, i ≤ j → keyN F + j ≤ keyN L → srung32 (f (placeN F i)) ≤ srung32 (f (placeN F j))
theorem Climbs.up {f : Nat → Nat} {F L : Nat} (h : Climbs f F L) {y i j : Nat} (hij : i ≤ j) (hj : keyN F + j ≤ keyN L) (c : comesB f (placeN F i) y = true) : comesB f (placeN F j) y = true := by
  have n1 := h.num i (by omega)
  have n2 := h.num j hj
  rw [comes_iff n1] at c
  rw [comes_iff n2]
  have hm := h.mono i j hij hj
  cases hy : nanN y
  · rw [hy, lessB_num n1 hy] at c
    rw [lessB_num n2 hy]
    have c' : ¬ srung32 (f (placeN F i)) < srung32 y := by simpa using c
    rw [decide_eq_false (show ¬ srung32 (f (placeN F j)) < srung32 y by omega)]
    rfl
  · rw [hy] at c; exact absurd c (by simp)
theorem place_key {F X : Nat} (hX : X < 4294967296) (h : keyN F ≤ keyN X) : X = placeN F (keyN X - keyN F) := by
  unfold placeN
  rw [show keyN F + (keyN X - keyN F) = keyN X by omega, fkey_key hX]
theorem key_place {F i : Nat} (h : keyN F + i < 4294967296) : keyN (placeN F i) = keyN F + i := by
  unfold placeN
  exact key_fkey h

theorem check_least {f : Nat → Nat} {F L : Nat} (hF : F < 4294967296) (hL : L < 4294967296) (hk : keyN F < keyN L) (h : Climbs f F L) (y X B : Nat) (H : Bool) (hX : X < 4294967296) (hB : B < 4294967296) :
    checkB f F L y X B H = true ↔ (lpE f L y = 0 ∧ X = lpX f F L y ∧ B = lpB f F L y ∧ H = lpH f F L y) := by
  have kL := keyN_lt hL
  have kX := keyN_lt hX
  have kB := keyN_lt hB
  have pL : placeN F (keyN L - keyN F) = L := (place_key hL (by omega)).symm
  obtain ⟨b1, b2, b3, b4⟩ := bis_facts (fun i => comesB f (placeN F i) y) (keyN L - keyN F) 0 (keyN L - keyN F) rfl (Nat.zero_le _)
  obtain ⟨R, hR⟩ : ∃ R, lN f F L y = R := ⟨_, rfl⟩
  have hR' : bis (fun i => comesB f (placeN F i) y) (keyN L - keyN F - 0) 0 (keyN L - keyN F) = R := hR
  rw [hR'] at b1 b2 b3 b4
  cases hc : comesB f L y
  · have e1 : lpE f L y = 43 := by unfold lpE; rw [hc]; rfl
    rw [e1]
    constructor
    · intro hh
      exfalso
      by_cases g : keyN X < keyN F ∨ keyN L < keyN X
      · rw [check_no (by rcases g with g | g; exact Or.inl g; exact Or.inr (Or.inl g))] at hh
        exact absurd hh (by decide)
      · have eX := place_key (F := F) hX (by omega)
        by_cases g2 : comesB f X y = true
        · have := h.up (y := y) (i := keyN X - keyN F) (j := keyN L - keyN F) (by omega) (by omega) (by rw [← eX]; exact g2)
          rw [pL, hc] at this
          exact absurd this (by decide)
        · rw [check_no (Or.inr (Or.inr (Or.inl (by simpa using g2))))] at hh
          exact absurd hh (by decide)
    · rintro ⟨a, _⟩
      exact absurd a (by decide)
  · have e1 : lpE f L y = 0 := by unfold lpE; rw [hc]; rfl
    have e2 : lpX f F L y = placeN F R := by unfold lpX; rw [hc, hR]; rfl
    have e3 : lpB f F L y = if R = 0 then 0 else placeN F (R - 1) := by unfold lpB; rw [hc, hR]; rfl
    have e4 : lpH f F L y = decide (R ≠ 0) := by unfold lpH; rw [hc, hR]; rfl
    rw [e1, e2, e3, e4]
    have pR : comesB f (placeN F R) y = true := by
      rcases b3 with b3 | b3
      · rw [b3, pL]; exact hc
      · exact b3
    have low : ∀ i, i < R → comesB f (placeN F i) y = false := by
      intro i hi
      rcases b4 with b4 | b4
      · omega
      · cases g : comesB f (placeN F i) y
        · rfl
        · have := h.up (y := y) (i := i) (j := R - 1) (by omega) (by omega) g
          rw [this] at b4
          exact absurd b4 (by decide)
    have kR : keyN (placeN F R) = keyN F + R := key_place (by omega)
    have xF : ∀ Z, Z < 4294967296 → ((Z != F) = decide (keyN Z - keyN F ≠ 0 ∨ keyN Z < keyN F)) := by
      intro Z hZ
      by_cases g : Z = F
      · subst g; simp
      · have : keyN Z ≠ keyN F := fun e => g (keyN_inj hZ hF e)
        rw [decide_eq_true (by omega)]
        simpa using g
    constructor
    · intro hh
      by_cases g : keyN X < keyN F ∨ keyN L < keyN X ∨ comesB f X y = false ∨ H ≠ (X != F)
      · rw [check_no g] at hh; exact absurd hh (by decide)
      · have g1 : keyN F ≤ keyN X := by apply Nat.le_of_not_lt; intro q; exact g (Or.inl q)
        have g2 : keyN X ≤ keyN L := by apply Nat.le_of_not_lt; intro q; exact g (Or.inr (Or.inl q))
        have g3 : comesB f X y = true := by cases q : comesB f X y; exact absurd (Or.inr (Or.inr (Or.inl q))) g; rfl
        have g4 : H = (X != F) := by
          apply Decidable.byContradiction; intro q; exact g (Or.inr (Or.inr (Or.inr q)))
        have eX := place_key (F := F) hX g1
        have hge : R ≤ keyN X - keyN F := by
          apply Nat.le_of_not_lt
          intro q
          have := low _ q
          rw [← eX, g3] at this
          exact absurd this (by decide)
        rw [xF X hX] at g4
        by_cases i0 : keyN X - keyN F = 0
        · have hf : H = false := by rw [g4, decide_eq_false (by omega)]
          rw [check_0 g hf] at hh
          have r0 : R = 0 := by omega
          refine ⟨rfl, by rw [eX, i0, r0], ?_, ?_⟩
          · rw [if_pos r0]; simpa using hh
          · rw [hf, decide_eq_false (by omega)]
        · have ht : H = true := by rw [g4, decide_eq_true (by omega)]
          rw [check_1 g ht] at hh
          simp only [Bool.and_eq_true, decide_eq_true_eq, Bool.not_eq_true'] at hh
          obtain ⟨h1, h2⟩ := hh
          have eB := place_key (F := F) hB (by omega)
          have hi : keyN B - keyN F = keyN X - keyN F - 1 := by omega
          have hle : keyN X - keyN F ≤ R := by
            apply Nat.le_of_not_lt
            intro q
            have := h.up (y := y) (i := R) (j := keyN B - keyN F) (by omega) (by omega) pR
            rw [← eB, h2] at this
            exact absurd this (by decide)
          have r0 : R ≠ 0 := by omega
          refine ⟨rfl, by rw [eX]; congr 1; omega, ?_, ?_⟩
          · rw [if_neg r0, eB]; congr 1; omega
          · rw [ht, decide_eq_true r0]
    · rintro ⟨_, rfl, rfl, rfl⟩
      have g4 : decide (R ≠ 0) = (placeN F R != F) := by
        rw [xF _ hX, kR]
        by_cases r0 : R = 0
        · rw [decide_eq_false (by omega), decide_eq_false (by omega)]
        · rw [decide_eq_true r0, decide_eq_true (by omega)]
      have g : ¬ (keyN (placeN F R) < keyN F ∨ keyN L < keyN (placeN F R) ∨ comesB f (placeN F R) y = false ∨ decide (R ≠ 0) ≠ (placeN F R != F)) := by
        rintro (q | q | q | q)
        · omega
        · omega
        · rw [pR] at q; exact absurd q (by decide)
        · exact q g4
      by_cases r0 : R = 0
      · rw [check_0 g (decide_eq_false (by omega)), if_pos r0]; rfl
      · rw [check_1 g (decide_eq_true r0), if_neg r0, kR, key_place (by omega), low _ (by omega), decide_eq_true (by omega)]
        rfl
theorem check_same {f : Nat → Nat} {F L : Nat} (hF : F < 4294967296) (hL : L < 4294967296) (hk : keyN F < keyN L) (h : Climbs f F L) (y X B : Nat) (H : Bool) (hX : X < 4294967296) (hB : B < 4294967296) :
    checkB f F L y X B H = (decide (lpE f L y = 0) && (decide (X = lpX f F L y) && (decide (B = lpB f F L y) && decide (H = lpH f F L y)))) := by
  have := check_least hF hL hk h y X B H hX hB
  rw [Bool.eq_iff_iff, this]
  simp
theorem lp_lt {f : Nat → Nat} {F L : Nat} (hL : L < 4294967296) (hk : keyN F < keyN L) (y : Nat) : lpX f F L y < 4294967296 ∧ lpB f F L y < 4294967296 := by
  have kL := keyN_lt hL
  have hR := lN_le f F L y
  unfold lpX lpB
  constructor
  · split
    · exact fkeyN_lt (by omega)
    · decide
  · split
    · split
      · decide
      · exact fkeyN_lt (by omega)
    · decide
theorem climbs_at {l : List (Nat × Nat)} (hl : COk l) : Climbs (atV l) (kx l 0) (kx l (l.length - 1)) := by
  have t := hl.two
  have a := (hl.lt 0).1
  have b := (hl.lt (l.length - 1)).1
  have c := (hl.fin 0 (by omega)).1
  have d := (hl.fin (l.length - 1) (by omega)).1
  have e := keyN_lt b
  constructor
  · intro i hi
    have n := place_num a b c d hi
    exact (chain_num (ll := [l]) (fun l' h => by simp at h; rw [h]; exact hl) n (fkeyN_lt (by omega))).1
  · intro i j hij hj
    have n1 := place_num a b c d (show keyN (kx l 0) + i ≤ keyN (kx l (l.length - 1)) by omega)
    have n2 := place_num a b c d hj
    refine at_mono hl n1 n2 (key_srung (fkeyN_lt (by omega)) (fkeyN_lt (by omega)) ?_)
    rw [key_place (by omega), key_place (by omega)]
    omega
end Go.Proofs.Ytfolecnjaaakeaa
