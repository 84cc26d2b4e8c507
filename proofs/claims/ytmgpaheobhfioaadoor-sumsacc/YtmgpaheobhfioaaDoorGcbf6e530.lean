/- Another order of a list, told by a number: the same samples. -/
import Derived.Test.YtmgpaheobhfioaaDoorGc1e9cdae
import Derived.Test.YtmgpaheobhfioaaDoorG04bdf37f
import Derived.Test.YtmgpaheobhfioaaDoorGbee05406
import Derived.Test.YtmgpaheobhfioaaDoorGb5d5ad33
import Derived.Laws.BitsAll
import Derived.Test.YtmgpaheobhfioaaDoorG5ca23ad5
namespace Go.Proofs.YtmgpaheobhfioaaDoor
open Go.RowKit
set_option linter.unusedVariables false
set_option linter.unusedSimpArgs false

theorem run_app_zeroU {P : Program} (w : World) (t ty e : TypeId) (i : TypeInfo) (ht : P.underlying t = some (.slice e)) (hi : P.info? e = some i) (a : Option Addr) (c : Nat) : (Builtin.append_ #[t, t] ty #[.slice none 0 0, .slice a 0 c]).run P w = .ok (.slice none 0 0) w := by
  cases a <;> simp [Builtin.append_, run_underlying ht, sizeOf, typeInfo, hi, Builtin.lenOf, Builtin.firstCells, loadCells, loadCellsFrom]
end Go.Proofs.YtmgpaheobhfioaaDoor
/- The statement SumsOrder: its walk. -/
namespace Go.Proofs.YtmgpaheobhfioaaDoor
open Go.RowKit
set_option linter.unusedVariables false
set_option linter.unusedSimpArgs false

theorem mem_lt {l : List Nat} (hb : ∀ i, l.getD i 0 < 4294967296) : ∀ z ∈ l, z < 4294967296 := by
  intro z hz
  obtain ⟨i, hi, rfl⟩ := List.getElem_of_mem hz
  have := hb i
  rw [List.getD_eq_getElem?_getD, List.getElem?_eq_getElem hi] at this
  exact this
theorem run_app_noneU {P : Program} (w : World) (t ty e : TypeId) (i : TypeInfo) (ht : P.underlying t = some (.slice e)) (hi : P.info? e = some i) (a : Option Addr) (c : Nat) (b : Addr) (n cap : Nat) (hn : n ≤ cap) : (Builtin.append_ #[t, t] ty #[.slice (some b) n cap, .slice a 0 c]).run P w = .ok (.slice (some b) n cap) w := by
  cases a <;> simp [Builtin.append_, run_underlying ht, sizeOf, typeInfo, hi, Builtin.lenOf, Builtin.firstCells, loadCells, loadCellsFrom, storeCells, hn]
end Go.Proofs.YtmgpaheobhfioaaDoor
/- Appending to a list without room. -/
namespace Go.Proofs.YtmgpaheobhfioaaDoor
open Go.RowKit
set_option linter.unusedVariables false
set_option linter.unusedSimpArgs false

theorem row_new {w : World} {e : TypeId} {l : List Value} {cs : Array Value} (hcs : ∀ (j : Nat) (u : Value), l[j]? = some u → cs[j]? = some u) :
    Q w (w.drew.alloc (.cells cs e)) ∧ (∀ (j : Nat) (u : Value), l[j]? = some u → (w.drew.alloc (.cells cs e)).cell? ⟨w.heap.size, j, none⟩ = some u) := by
  have hb : (w.drew.alloc (.cells cs e)).heap[w.heap.size]? = some (.cells cs e (0, 0)) := heap_alloc_new w.drew _
  refine ⟨(Q.refl w).drew.cells _ _, fun j u hu => ?_⟩
  rw [cell_of_row _ _ j cs e (0, 0) hb]
  exact hcs j u hu
set_option maxRecDepth 100000 in
/-- Samples put behind a list that has no room. -/
theorem run_apF (w : World) (ty : TypeId) (aX : Option Addr) (nX : Nat) (X : List Nat) (hX : X.length = nX) (uX : USl w (.slice aX nX nX) X) (aS : Option Addr) (nS cS : Nat) (S : List Nat) (hS : S.length = nS) (uS : USl w (.slice aS nS cS) S) (hb : nX + nS ≤ 100000) (hz : aX = none → nX = 0) :
    ∃ la lc w', (Builtin.append_ #[29, 29] ty #[.slice aX nX nX, .slice aS nS cS]).run Tryd.prog w = .ok (.slice la (nX + nS) lc) w' ∧ Q w w' ∧ USl w' (.slice la (nX + nS) lc) (X ++ S) ∧ (∀ g o, la = some ⟨g, o, none⟩ → w.heap.size ≤ g ∨ (la = aX ∧ nS = 0)) ∧ nX + nS ≤ lc ∧ (la = none → nX + nS = 0 ∧ lc = 0) := by
  obtain ⟨iu, i1, i2, i3, i4⟩ := u32_info
  by_cases h0 : nS = 0
  · subst h0
    have hS0 : S = [] := List.eq_nil_of_length_eq_zero hS
    subst hS0
    refine ⟨aX, nX, w, ?_, Q.refl w, ?_, fun g o e => Or.inr ⟨rfl, rfl⟩, Nat.le_refl _, fun e => ⟨by rw [hz e], hz e⟩⟩
    · cases aX with
      | none =>
        rw [hz rfl]
        exact run_app_zeroU w 29 ty 36 iu Tryd.underlying29 i1 aS cS
      | some b => exact run_app_noneU w 29 ty 36 iu Tryd.underlying29 i1 aS cS b nX nX (Nat.le_refl _)
    · rw [List.append_nil]; exact uX
  · obtain ⟨g, o, c', e1, hcap, e3⟩ := uS.some (by omega)
    injection e1 with e1 _ e4
    subst e1 e4
    have hl : (newsU S).length = nS * iu.size := by rw [i2, Nat.mul_one]; simp [newsU, hS]
    have hnews : ∀ j u, (newsU S)[j]? = some u → w.cell? ((⟨g, o, none⟩ : Addr).add j) = some u := fun j u hu => by
      obtain ⟨hj, rfl⟩ := news_at hu
      rw [show (⟨g, o, none⟩ : Addr).add j = ⟨g, o + j, none⟩ by unfold Addr.add; split <;> simp_all]
      exact e3 j hj
    have fin : ∀ (k : Nat), Q w (w.drew.alloc (.cells ((newsU X).toArray ++ (newsU S).toArray ++ Builtin.zeroCells (Value.int IntKind.u32 0).cells k) 36)) ∧ USl (w.drew.alloc (.cells ((newsU X).toArray ++ (newsU S).toArray ++ Builtin.zeroCells (Value.int IntKind.u32 0).cells k) 36)) (.slice (some ⟨w.heap.size, 0, none⟩) (nX + nS) (nX + nS + k)) (X ++ S) := by
      intro k
      obtain ⟨q, hc⟩ := row_new (w := w) (e := 36) (l := newsU X ++ newsU S) (cs := (newsU X).toArray ++ (newsU S).toArray ++ Builtin.zeroCells (Value.int IntKind.u32 0).cells k) (fun j u hu => by
        have hj := (List.getElem?_eq_some_iff.1 hu).1
        rw [Array.getElem?_append_left (by simpa using hj)]
        simpa using hu)
      refine ⟨q, Or.inl ⟨w.heap.size, 0, _, by rw [List.length_append, hX, hS], by rw [List.length_append, hX, hS]; omega, fun i hi => ?_⟩⟩
      rw [Nat.zero_add]
      refine hc i _ ?_
      have hap : newsU X ++ newsU S = newsU (X ++ S) := by simp [newsU]
      rw [hap]
      unfold newsU
      rw [List.getElem?_map, List.getD_eq_getElem?_getD, List.getElem?_eq_getElem hi]; rfl
    cases aX with
    | none =>
      obtain rfl := hz rfl
      have hX0 : X = [] := List.eq_nil_of_length_eq_zero hX
      subst hX0
      have hr := run_append_nil (P := Tryd.prog) w 29 ty 36 iu _ Tryd.underlying29 i1 i4 ⟨g, o, none⟩ nS cS (newsU S) hl hnews (by omega) (by omega) (by rw [i3]; omega)
      obtain ⟨q, hu⟩ := fin (grownCap w nS 0 36 - nS)
      have hge := grownCap_ge w nS 0 36
      rw [show (newsU ([] : List Nat)).toArray = #[] from rfl, Array.empty_append] at q hu
      rw [Nat.zero_add, show nS + (grownCap w nS 0 36 - nS) = grownCap w nS 0 36 by omega] at hu
      rw [Nat.zero_add]
      exact ⟨_, _, _, hr, q, hu, fun g o e => Or.inl (by injection e with e; injection e with e; omega), hge, fun e => by cases e⟩
    | some b =>
      have holds : ∀ j u, (newsU X)[j]? = some u → w.cell? (b.add j) = some u := fun j u hu => by
        obtain ⟨hj, rfl⟩ := news_at hu
        obtain ⟨g2, o2, c2, ev, _, hI⟩ := uX.some (by omega)
        injection ev with ev _ _
        injection ev with ev
        subst ev
        rw [show (⟨g2, o2, none⟩ : Addr).add j = ⟨g2, o2 + j, none⟩ by unfold Addr.add; split <;> simp_all]
        exact hI j hj
      have hr := run_append_grow (P := Tryd.prog) w 29 ty 36 iu _ Tryd.underlying29 i1 i4 b nX nX (newsU X) (by rw [i2, Nat.mul_one]; simp [newsU, hX]) holds ⟨g, o, none⟩ nS cS (newsU S) hl hnews (by omega) (by omega) (growslice_fits (by omega) (by rw [i3]; omega))
      obtain ⟨q, hu⟩ := fin (grownCap w (nX + nS) nX 36 - (nX + nS))
      have hge := grownCap_ge w (nX + nS) nX 36
      rw [show nX + nS + (grownCap w (nX + nS) nX 36 - (nX + nS)) = grownCap w (nX + nS) nX 36 by omega] at hu
      exact ⟨_, _, _, hr, q, hu, fun g o e => Or.inl (by injection e with e; injection e with e; omega), hge, fun e => by cases e⟩
end Go.Proofs.YtmgpaheobhfioaaDoor
