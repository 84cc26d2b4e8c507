/- Searching by halves: what sort.Search returns, and what the closure of a curve's At answers. -/
import Derived.Test.YtieojgblamkgoaaGreatDoorGdf44e40f
import Derived.Deep.QuietTactic
import Derived.BigQuiet
namespace Go.Proofs.YtieojgblamkgoaaGreatDoor
open Go.RowKit

/-- Searching by halves. -/
def bis (p : Nat → Bool) : Nat → Nat → Nat → Nat
  | 0, lo, _ => lo
  | f + 1, lo, hi => if lo < hi then (if p ((lo + hi) / 2) = true then bis p f lo ((lo + hi) / 2) else bis p f ((lo + hi) / 2 + 1) hi) else lo
theorem bis_fuel (p : Nat → Bool) : ∀ (f : Nat) (lo hi : Nat), hi - lo ≤ f → bis p f lo hi = bis p (hi - lo) lo hi := by
  intro f
  induction f using Nat.strongRecOn with
  | _ f ih =>
    intro lo hi h
    cases f with
    | zero => rw [show hi - lo = 0 by omega]
    | succ f =>
      by_cases hlt : lo < hi
      · obtain ⟨d, hd⟩ : ∃ d, hi - lo = d + 1 := ⟨hi - lo - 1, by omega⟩
        rw [hd]
        show (if lo < hi then _ else _) = if lo < hi then _ else _
        rw [if_pos hlt, if_pos hlt]
        rw [ih f (by omega) lo ((lo + hi) / 2) (by omega), ih f (by omega) ((lo + hi) / 2 + 1) hi (by omega)]
        by_cases hdf : d = f
        · rw [hdf, ih f (by omega) lo ((lo + hi) / 2) (by omega), ih f (by omega) ((lo + hi) / 2 + 1) hi (by omega)]
        · rw [ih d (by omega) lo ((lo + hi) / 2) (by omega), ih d (by omega) ((lo + hi) / 2 + 1) hi (by omega)]
      · rw [show hi - lo = 0 by omega]
        show (if lo < hi then _ else lo) = lo
        rw [if_neg hlt]
theorem bis_yes {p : Nat → Bool} {lo hi : Nat} (h : lo < hi) (hp : p ((lo + hi) / 2) = true) : bis p (hi - lo) lo hi = bis p ((lo + hi) / 2 - lo) lo ((lo + hi) / 2) := by
  obtain ⟨d, hd⟩ : ∃ d, hi - lo = d + 1 := ⟨hi - lo - 1, by omega⟩
  rw [hd]
  show (if lo < hi then _ else _) = _
  rw [if_pos h, if_pos hp, bis_fuel p d _ _ (by omega)]
theorem bis_no {p : Nat → Bool} {lo hi : Nat} (h : lo < hi) (hp : p ((lo + hi) / 2) = false) : bis p (hi - lo) lo hi = bis p (hi - ((lo + hi) / 2 + 1)) ((lo + hi) / 2 + 1) hi := by
  obtain ⟨d, hd⟩ : ∃ d, hi - lo = d + 1 := ⟨hi - lo - 1, by omega⟩
  rw [hd]
  show (if lo < hi then _ else _) = _
  rw [if_pos h, if_neg (by rw [hp]; decide), bis_fuel p d _ _ (by omega)]
theorem bis_end {p : Nat → Bool} {lo : Nat} : bis p (lo - lo) lo lo = lo := by rw [Nat.sub_self]; rfl
/-- What it comes to: a place from lo to hi; it says yes there (or it is hi), and no right ahead of it (or it is lo). -/
theorem bis_facts (p : Nat → Bool) : ∀ (d lo hi : Nat), hi - lo = d → lo ≤ hi → lo ≤ bis p (hi - lo) lo hi ∧ bis p (hi - lo) lo hi ≤ hi ∧ (bis p (hi - lo) lo hi = hi ∨ p (bis p (hi - lo) lo hi) = true) ∧ (bis p (hi - lo) lo hi = lo ∨ p (bis p (hi - lo) lo hi - 1) = false) := by
  intro d
  induction d using Nat.strongRecOn with
  | _ d ih =>
    intro lo hi hd hle
    by_cases hlt : lo < hi
    · cases hp : p ((lo + hi) / 2)
      · rw [bis_no hlt hp]
        obtain ⟨a, b, c, e⟩ := ih (hi - ((lo + hi) / 2 + 1)) (by omega) ((lo + hi) / 2 + 1) hi rfl (by omega)
        refine ⟨by omega, b, c, ?_⟩
        rcases e with e | e
        · right; rw [e]; exact hp
        · right; exact e
      · rw [bis_yes hlt hp]
        obtain ⟨a, b, c, e⟩ := ih ((lo + hi) / 2 - lo) (by omega) lo ((lo + hi) / 2) rfl (by omega)
        refine ⟨a, by omega, ?_, e⟩
        rcases c with c | c
        · right; rw [c]; exact hp
        · right; exact c
    · obtain rfl : hi = lo := by omega
      rw [bis_end]
      exact ⟨Nat.le_refl _, Nat.le_refl _, Or.inl rfl, Or.inl rfl⟩

end Go.Proofs.YtieojgblamkgoaaGreatDoor
