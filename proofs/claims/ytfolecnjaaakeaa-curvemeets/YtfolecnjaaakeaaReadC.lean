/- Lists of knots that came in, in a list. -/
import Derived.Test.YtfolecnjaaakeaaReadA
import Derived.Test.YtfolecnjaaakeaaChainC
namespace Go.Proofs.Ytfolecnjaaakeaa
open Go.ChangeShapes Go.WideShapes Go.ChangeAt Go.RowKit Go.Deep
set_option linter.unusedVariables false

theorem read_ls {H : Type} {enc : TypeId × Value → H} {W : World} {base : Nat} {sp : Nat → Bool} {held : Bool} {a : Option Addr} {len cap : Nat} {d : DataW H} {p : List MemPlace}
    (h : DataW.Trod enc Try.prog W base sp held 37 (.slice a len cap) d p) :
    ∃ ll : List (List (Nat × Nat)), VLs W (.slice a len cap) ll ∧ len = ll.length ∧ ll.length ≤ maxLen ∧ Fits ll := by
  obtain ⟨fuel, hf⟩ := h
  rcases open_slice1 Try.underlying37 (by kernel_rfl) hf with ⟨hcs, _⟩ | ⟨x, l, c, m, n, V, D, Pl, hcs, _, hl, hm, hmm, _, hx⟩
  · simp [Value.cells] at hcs
    obtain ⟨rfl, rfl, rfl⟩ := hcs
    exact ⟨[], Or.inr ⟨_, _, rfl, rfl⟩, rfl, Nat.zero_le _, fun l hl => by cases hl⟩
  · simp [Value.cells] at hcs
    obtain ⟨rfl, rfl, rfl⟩ := hcs
    have hml : len ≤ m := by rw [hmm]; split <;> omega
    have key : ∀ i, ∃ q : List (Nat × Nat), q.length ≤ 9223372036854775807 ∧ (∀ j, kx q j < 4294967296 ∧ ky q j < 4294967296) ∧ (i < len → ∃ u, W.cell? (x.add i) = some u ∧ KSl W u q) := by
      intro i
      by_cases hi : i < len
      · obtain ⟨h1, h2⟩ := hx i (by omega)
        have hu : ∃ a' l' c', V i = .slice a' l' c' := by
          rcases open_slice Try.underlying22 h2 with ⟨hcs, _⟩ | ⟨x', l', c', _, _, _, _, hcs, _⟩
          · injection hcs with hcs; exact ⟨_, _, _, hcs⟩
          · injection hcs with hcs; exact ⟨_, _, _, hcs⟩
        obtain ⟨a', l', c', e⟩ := hu
        rw [e] at h1 h2
        obtain ⟨q, r1, _, r2, r3⟩ := read_ks (enc := enc) (W := W) (base := base) (sp := sp) (held := held) (a := a') (len := l') (cap := c') ⟨n, by simpa [Value.cells] using h2⟩
        exact ⟨q, by unfold maxLen at r2; omega, r3, fun _ => ⟨_, h1, r1⟩⟩
      · exact ⟨[], by decide, fun j => ⟨by show 0 < _; decide, by show 0 < _; decide⟩, fun h => absurd h hi⟩
    obtain ⟨f, hf'⟩ : ∃ f : Nat → List (Nat × Nat), ∀ i, (f i).length ≤ 9223372036854775807 ∧ (∀ j, kx (f i) j < 4294967296 ∧ ky (f i) j < 4294967296) ∧ (i < len → ∃ u, W.cell? (x.add i) = some u ∧ KSl W u (f i)) := ⟨fun i => Classical.choose (key i), fun i => Classical.choose_spec (key i)⟩
    have hlen : ((List.range len).map f).length = len := by simp
    have hk : ∀ i, i < len → ((List.range len).map f).getD i [] = f i := by
      intro i hi
      rw [List.getD_eq_getElem?_getD, List.getElem?_map, List.getElem?_range hi]; rfl
    refine ⟨(List.range len).map f, ?_, hlen.symm, by rw [hlen]; omega, fun l hl => ?_⟩
    · by_cases h0 : len = 0
      · subst h0; exact Or.inr ⟨_, _, rfl, by simp⟩
      · obtain ⟨b, off, spot⟩ := x
        obtain ⟨u0, hc, _⟩ := (hf' 0).2.2 (by omega)
        have hspot : spot = none := by simpa [Addr.add] using World.cell?_spot hc
        subst hspot
        refine Or.inl ⟨b, off, cap, by rw [hlen], by rw [hlen]; exact hl, fun i hi => ?_⟩
        rw [hlen] at hi
        obtain ⟨u, c0, c1⟩ := (hf' i).2.2 hi
        have hadd : ∀ j, (⟨b, off, none⟩ : Addr).add j = ⟨b, off + j, none⟩ := by intro j; unfold Addr.add; split <;> simp_all
        rw [hadd] at c0
        rw [hk i hi]
        exact ⟨u, c0, c1⟩
    · obtain ⟨i, _, rfl⟩ := List.mem_map.1 hl
      exact ⟨(hf' i).1, (hf' i).2.1⟩
end Go.Proofs.Ytfolecnjaaakeaa
