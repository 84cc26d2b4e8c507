/- Proofs that came in. -/
import Derived.Test.YtfolecnjaaakeaaReadA
import Derived.Test.YtfolecnjaaakeaaLawLeast
namespace Go.Proofs.Ytfolecnjaaakeaa
open Go.ChangeShapes Go.WideShapes Go.ChangeAt Go.RowKit Go.Deep
set_option linter.unusedVariables false

theorem triple_cells {H : Type} {enc : TypeId × Value → H} {P : Program} {w : World} {base : Nat} {spare : Nat → Bool} {held : Bool} {e : TypeId} {f0 f1 f2 : Field} (he : P.underlying e = some (.struct #[f0, f1, f2]))
    (ce : P.cellsOf e = 3) (o0 : f0.offset = 0) (o1 : f1.offset = 1) (o2 : f2.offset = 2) (c0 : P.cellsOf f0.type = 1) (c1 : P.cellsOf f1.type = 1) (c2 : P.cellsOf f2.type = 1) {n : Nat} {b : Addr} {cs' : List Value} {y : DataW H × List MemPlace}
    (h1 : w.cells? base b 3 = some cs') (h2 : DataW.trod enc P w base spare held n e cs' = some y) :
    ∃ (v0 v1 v2 : Value) (y0 y1 y2 : DataW H × List MemPlace) (k : Nat), w.cell? b = some v0 ∧ w.cell? (b.add 1) = some v1 ∧ w.cell? (b.add 2) = some v2 ∧
      DataW.trod enc P w base spare held k f0.type [v0] = some y0 ∧ DataW.trod enc P w base spare held k f1.type [v1] = some y1 ∧ DataW.trod enc P w base spare held k f2.type [v2] = some y2 := by
  obtain ⟨_, hlen, hcell⟩ := World.cells?_some h1
  obtain ⟨xs, k, hk, hxy, _, hxl, hf⟩ := DataW.trod_struct he h2
  match xs, hxl, cs', hlen with
  | [y0, y1, y2], _, [v0, v1, v2], _ =>
    have g0 := hf 0 f0 rfl
    have g1 := hf 1 f1 rfl
    have g2 := hf 2 f2 rfl
    simp [o0, o1, o2, c0, c1, c2] at g0 g1 g2
    have e0 := hcell 0 (by omega)
    have e1 := hcell 1 (by omega)
    have e2 := hcell 2 (by omega)
    exact ⟨v0, v1, v2, y0, y1, y2, k, by simpa [Addr.add] using e0, by simpa using e1, by simpa using e2, g0, g1, g2⟩
/-- Proofs that came in. -/
theorem read_ps {H : Type} {enc : TypeId × Value → H} {W : World} {base : Nat} {sp : Nat → Bool} {held : Bool} {a : Option Addr} {len cap : Nat} {d : DataW H} {p : List MemPlace}
    (h : DataW.Trod enc Try.prog W base sp held 36 (.slice a len cap) d p) :
    ∃ l : List (Nat × Nat × Bool), PSl W (.slice a len cap) l ∧ len = l.length ∧ l.length ≤ maxLen ∧ ∀ i, px l i < 4294967296 ∧ pb l i < 4294967296 := by
  obtain ⟨fuel, hf⟩ := h
  rcases open_slice Try.underlying36 hf with ⟨hcs, _⟩ | ⟨x, l, c, m, n, D, Pl, hcs, _, hl, hm, hmm, _, hx⟩
  · simp [Value.cells] at hcs
    obtain ⟨rfl, rfl, rfl⟩ := hcs
    exact ⟨[], Or.inr ⟨_, _, rfl, rfl⟩, rfl, Nat.zero_le _, fun i => ⟨by show 0 < _; decide, by show 0 < _; decide⟩⟩
  · simp [Value.cells] at hcs
    obtain ⟨rfl, rfl, rfl⟩ := hcs
    have hml : len ≤ m := by rw [hmm]; split <;> omega
    have ce : Try.prog.cellsOf 39 = 3 := by kernel_rfl
    have key : ∀ i, ∃ q : Nat × Nat × Bool, q.1 < 4294967296 ∧ q.2.1 < 4294967296 ∧ (i < len → W.cell? (x.add (i * 3)) = some (.int .u32 (q.1 : Int)) ∧ W.cell? ((x.add (i * 3)).add 1) = some (.int .u32 (q.2.1 : Int)) ∧ W.cell? ((x.add (i * 3)).add 2) = some (.bool q.2.2)) := by
      intro i
      by_cases hi : i < len
      · obtain ⟨cs', h1, h2⟩ := hx i (by omega)
        rw [ce] at h1
        obtain ⟨v0, v1, v2, y0, y1, y2, k, c0, c1, c2, t0, t1, t2⟩ := triple_cells Try.underlying39 ce (by kernel_rfl) (by kernel_rfl) (by kernel_rfl) (by kernel_rfl) (by kernel_rfl) (by kernel_rfl) h1 h2
        obtain ⟨n0, e0, _, w0⟩ := DataW.trod_int Try.underlying30 t0
        obtain ⟨n1, e1, _, w1⟩ := DataW.trod_int Try.underlying30 t1
        obtain ⟨n2, e2, _⟩ := DataW.trod_bool Try.underlying4 t2
        simp at e0 e1 e2
        have b0 := u32_bd w0
        have b1 := u32_bd w1
        refine ⟨(n0.toNat, n1.toNat, n2), by show n0.toNat < _; omega, by show n1.toNat < _; omega, fun _ => ⟨?_, ?_, ?_⟩⟩
        · rw [c0, e0, show ((n0.toNat : Nat) : Int) = n0 by omega]
        · rw [c1, e1, show ((n1.toNat : Nat) : Int) = n1 by omega]
        · rw [c2, e2]
      · exact ⟨(0, 0, false), by decide, by decide, fun h => absurd h hi⟩
    obtain ⟨f, hf'⟩ : ∃ f : Nat → Nat × Nat × Bool, ∀ i, (f i).1 < 4294967296 ∧ (f i).2.1 < 4294967296 ∧ (i < len → W.cell? (x.add (i * 3)) = some (.int .u32 ((f i).1 : Int)) ∧ W.cell? ((x.add (i * 3)).add 1) = some (.int .u32 ((f i).2.1 : Int)) ∧ W.cell? ((x.add (i * 3)).add 2) = some (.bool (f i).2.2)) := ⟨fun i => Classical.choose (key i), fun i => Classical.choose_spec (key i)⟩
    have hlen : ((List.range len).map f).length = len := by simp
    have hk : ∀ i, i < len → ((List.range len).map f).getD i (0, 0, false) = f i := by
      intro i hi
      rw [List.getD_eq_getElem?_getD, List.getElem?_map, List.getElem?_range hi]; rfl
    have hk' : ∀ i, ¬ i < len → ((List.range len).map f).getD i (0, 0, false) = (0, 0, false) := by
      intro i hi
      rw [List.getD_eq_getElem?_getD, List.getElem?_eq_none (by rw [hlen]; omega)]; rfl
    refine ⟨(List.range len).map f, ?_, hlen.symm, by rw [hlen]; omega, fun i => ?_⟩
    · by_cases h0 : len = 0
      · subst h0; exact Or.inr ⟨_, _, rfl, by simp⟩
      · obtain ⟨b, off, spot⟩ := x
        have hc := ((hf' 0).2.2 (by omega)).1
        have hspot : spot = none := by simpa [Addr.add] using World.cell?_spot hc
        subst hspot
        refine Or.inl ⟨b, off, cap, by rw [hlen], by rw [hlen]; exact hl, fun i hi => ?_⟩
        rw [hlen] at hi
        obtain ⟨c0, c1, c2⟩ := (hf' i).2.2 hi
        have hadd : ∀ o j, (⟨b, o, none⟩ : Addr).add j = ⟨b, o + j, none⟩ := by intro o j; unfold Addr.add; split <;> simp_all
        rw [hadd] at c0
        rw [hadd, hadd] at c1 c2
        unfold px pb ph
        rw [hk i hi]
        exact ⟨c0, c1, c2⟩
    · unfold px pb
      by_cases hi : i < len
      · rw [hk i hi]; exact ⟨(hf' i).1, (hf' i).2.1⟩
      · rw [hk' i hi]; exact ⟨by decide, by decide⟩
end Go.Proofs.Ytfolecnjaaakeaa
