/- Arguments as the statements' walks take them: planes that came in. -/
import Derived.Test.YtieojgblamkgoaaGreatDoorG4085d0f8
import Derived.Test.YtieojgblamkgoaaGreatDoorG7e4ce208
import Derived.Deep.Strs
import Derived.Test.YtieojgblamkgoaaGreatDoorGd4192d69
namespace Go.Proofs.YtieojgblamkgoaaGreatDoor
open Go.ChangeShapes Go.WideShapes Go.ChangeAt Go.RowKit Go.Deep
set_option linter.unusedVariables false
set_option linter.constructorNameAsVariable false

theorem getD_map_toNat (l : List Int) (i : Nat) : (l.map Int.toNat).getD i 0 = (l.getD i 0).toNat := by
  rw [List.getD_eq_getElem?_getD, List.getD_eq_getElem?_getD, List.getElem?_map]
  cases l[i]? <;> rfl
/-- Samples that came in. -/
theorem read_us {H : Type} {enc : TypeId × Value → H} {W : World} {base : Nat} {sp : Nat → Bool} {held : Bool} {v : Value} {fuel : Nat} {x : DataW H × List MemPlace}
    (hf : DataW.trod enc Tryz.prog W base sp held fuel 24 [v] = some x) :
    ∃ xs : List Nat, USl W v xs ∧ xs.length ≤ maxLen ∧ ∀ i, xs.getD i 0 < 4294967296 := by
  rcases open_ints Tryz.underlying24 Tryz.underlying43 (by kernel_rfl) hf with ⟨hcs, _⟩ | ⟨x, len, cap, zs, hcs, _, hl, hm, hz, _, hcell, hwz⟩
  · simp at hcs
    subst hcs
    exact ⟨[], Or.inr ⟨_, _, rfl, rfl⟩, Nat.zero_le _, fun i => by show 0 < _; decide⟩
  · simp at hcs
    subst hcs
    have hzl : len ≤ zs.length := by rw [hz]; split <;> omega
    have bd : ∀ i, (zs.getD i 0) ≥ 0 ∧ zs.getD i 0 < 4294967296 := by
      intro i
      rw [List.getD_eq_getElem?_getD]
      cases h : zs[i]? with
      | none => exact ⟨by decide, by decide⟩
      | some z => have := u32_bd (hwz z (List.mem_of_getElem? h)); exact ⟨this.1, Int.lt_of_le_of_lt this.2 (by decide)⟩
    have hlen : ((zs.take len).map Int.toNat).length = len := by simp; omega
    refine ⟨(zs.take len).map Int.toNat, ?_, by rw [hlen]; omega, fun i => ?_⟩
    · by_cases h0 : len = 0
      · subst h0; exact Or.inr ⟨_, _, rfl, by simp⟩
      · obtain ⟨b, off, spot⟩ := x
        have hc := hcell 0 (by omega)
        have hspot : spot = none := by simpa [Addr.add] using World.cell?_spot hc
        subst hspot
        refine Or.inl ⟨b, off, cap, by rw [hlen], by rw [hlen]; exact hl, fun i hi => ?_⟩
        rw [hlen] at hi
        have hc := hcell i (by omega)
        have hadd : (⟨b, off, none⟩ : Addr).add i = ⟨b, off + i, none⟩ := by unfold Addr.add; split <;> simp_all
        rw [hadd] at hc
        rw [hc, getD_map_toNat]
        have e : (zs.take len).getD i 0 = zs.getD i 0 := by
          rw [List.getD_eq_getElem?_getD, List.getD_eq_getElem?_getD, List.getElem?_take, if_pos hi]
        rw [e]
        have := bd i
        congr 2
        omega
    · rw [getD_map_toNat]
      by_cases hi : i < len
      · have e : (zs.take len).getD i 0 = zs.getD i 0 := by
          rw [List.getD_eq_getElem?_getD, List.getD_eq_getElem?_getD, List.getElem?_take, if_pos hi]
        rw [e]; have := bd i; omega
      · have e : (zs.take len).getD i 0 = 0 := by
          rw [List.getD_eq_getElem?_getD, List.getElem?_take, if_neg hi]; rfl
        rw [e]; decide
set_option maxRecDepth 100000 in
/-- A plane that came in. -/
theorem read_pl {H : Type} {enc : TypeId × Value → H} {W : World} {base b0 : Nat} {r : Reach} {sp : Nat → Bool} {held : Bool} {v : Value} {d : DataW H} {p : List MemPlace}
    (hv : Value.okWide Tryz.prog W r b0 26 v) (h : DataW.Trod enc Tryz.prog W base sp held 26 v d p) :
    ∃ (w0 h0 : Int) (sv : Value) (S : List Nat), v = .agg #[.int .i64 w0, .int .i64 h0, sv] ∧ (-9223372036854775808 ≤ w0 ∧ w0 ≤ 9223372036854775807) ∧ (-9223372036854775808 ≤ h0 ∧ h0 ≤ 9223372036854775807) ∧ USl W sv S ∧ S.length ≤ maxLen ∧ ∀ i, S.getD i 0 < 4294967296 := by
  obtain ⟨cs, rfl, hsz⟩ := okWide_struct Tryz.underlying26 hv
  obtain ⟨fuel, hf⟩ := h
  have hc3 : Tryz.prog.cellsOf 26 = 3 := by kernel_rfl
  obtain ⟨y0, y1, y2, n, _, hl, t0, t1, t2⟩ := trod_struct3 Tryz.underlying26 hf
  rw [hc3] at hsz
  obtain ⟨l⟩ := cs
  match l, hsz with
  | [c0, c1, c2], _ =>
    obtain ⟨n0, e0, _, w0⟩ := DataW.trod_int Tryz.underlying3 t0
    obtain ⟨n1, e1, _, w1⟩ := DataW.trod_int Tryz.underlying3 t1
    have k1 : Tryz.prog.cellsOf 3 = 1 := by kernel_rfl
    have k2 : Tryz.prog.cellsOf 24 = 1 := by kernel_rfl
    rw [k1] at e0 e1
    rw [k2] at t2
    simp [Value.cells] at e0 e1 t2
    obtain ⟨S, h1, h2, h3⟩ := read_us t2
    exact ⟨n0, n1, c2, S, by rw [e0, e1], i64_bd w0, i64_bd w1, h1, h2, h3⟩
end Go.Proofs.YtieojgblamkgoaaGreatDoor
/- Lists of whole numbers in memory. -/
namespace Go.Proofs.YtieojgblamkgoaaGreatDoor
open Go.RowKit
set_option linter.unusedVariables false
set_option linter.unusedSimpArgs false

/-- A list of whole numbers in memory. -/
def ISl (w : World) (v : Value) (l : List Int) : Prop := (∃ g o cap, v = .slice (some ⟨g, o, none⟩) l.length cap ∧ ∀ i, i < l.length → w.cell? ⟨g, o + i, none⟩ = some (.int .i64 (l.getD i 0))) ∨ (∃ a c, v = .slice a 0 c ∧ l = [])
theorem ISl.next {w w' : World} {v : Value} {l : List Int} (h : ISl w v l) (q : Q w w') : ISl w' v l := by
  rcases h with ⟨g, o, cap, h1, h2⟩ | h
  · exact Or.inl ⟨g, o, cap, h1, fun i hi => q.cell (h2 i hi)⟩
  · exact Or.inr h
theorem ISl.form {w : World} {v : Value} {l : List Int} (h : ISl w v l) : ∃ a cap, v = .slice a l.length cap := by
  rcases h with ⟨g, o, cap, h1, h2⟩ | ⟨a, c, h1, h2⟩
  · exact ⟨_, _, h1⟩
  · subst h2; exact ⟨a, c, h1⟩
theorem ISl.some {w : World} {v : Value} {l : List Int} (h : ISl w v l) (h1 : 1 ≤ l.length) : ∃ g o cap, v = .slice (some ⟨g, o, none⟩) l.length cap ∧ ∀ i, i < l.length → w.cell? ⟨g, o + i, none⟩ = some (.int .i64 (l.getD i 0)) := by
  rcases h with h | ⟨_, _, _, h2⟩
  · exact h
  · subst h2; cases h1
end Go.Proofs.YtieojgblamkgoaaGreatDoor
