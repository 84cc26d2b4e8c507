/- How great a plane may be that came in. -/
import Derived.Test.YtkgfohodahkmmaaReadP
import Derived.SizedLaws
namespace Go.Proofs.Ytkgfohodahkmmaa
open Go.ChangeShapes Go.WideShapes Go.ChangeAt Go.RowKit Go.Deep
set_option linter.unusedVariables false

theorem us_weight {H : Type} {enc : TypeId × Value → H} {W : World} {base : Nat} {sp : Nat → Bool} {held : Bool} {v : Value} {fuel : Nat} {x : DataW H × List MemPlace} {S : List Nat}
    (hf : DataW.trod enc Try.prog W base sp held fuel 23 [v] = some x) (hw : ∀ m ∈ x.1.weights Try.prog 23, m ≤ reachBytes) (hS : USl W v S) : S.length ≤ 35184372087808 := by
  obtain ⟨a', c', hv⟩ := hS.form
  rcases open_ints Try.underlying23 Try.underlying22 (by kernel_rfl) hf with ⟨hcs, _⟩ | ⟨a, len, cap, zs, hcs, _, hl, hm, hz, hx, hcell, hwz⟩
  · simp at hcs
    rw [hv] at hcs
    injection hcs with _ h _
    omega
  · simp at hcs
    rw [hv] at hcs
    injection hcs with _ h _
    have hb : Try.prog.bytesOf 22 = 4 := by kernel_rfl
    have hzl : len ≤ zs.length := by rw [hz]; split <;> omega
    have hlit : ∀ l : List Int, (lits (H := H) .u32 l).length = l.length := fun l => by unfold lits; simp
    have := hw (zs.length * 4) (by
      rw [hx]
      simp only [DataW.weights, Try.underlying23]
      rw [hlit, hlit, hb]
      refine List.mem_cons.2 (Or.inl ?_)
      rw [← List.length_append, List.take_append_drop])
    unfold reachBytes at this
    omega
theorem pl_weight {H : Type} {enc : TypeId × Value → H} {W : World} {base : Nat} {sp : Nat → Bool} {held : Bool} {W0 H0 : Int} {sv : Value} {d : DataW H} {p : List MemPlace} {S : List Nat}
    (h : DataW.Trod enc Try.prog W base sp held 25 (.agg #[.int .i64 W0, .int .i64 H0, sv]) d p) (hw : ∀ m ∈ d.weights Try.prog 25, m ≤ reachBytes) (hS : USl W sv S) : S.length ≤ 35184372087808 := by
  obtain ⟨fuel, hf⟩ := h
  obtain ⟨y0, y1, y2, n, hx, hl, t0, t1, t2⟩ := trod_struct3 Try.underlying25 hf
  have k1 : Try.prog.cellsOf 3 = 1 := by kernel_rfl
  have k2 : Try.prog.cellsOf 23 = 1 := by kernel_rfl
  rw [k2] at t2
  simp [Value.cells] at t2
  refine us_weight t2 (fun m hm => hw m ?_) hS
  injection hx with hx _
  rw [hx]
  simp only [DataW.weights, Try.underlying25]
  exact DataW.weights_mem_each (j := 2) rfl rfl m hm
/-- The weights of one argument are among all. -/
theorem weight_of {H : Type} {ts : List TypeId} {ds : List (DataW H)} (h : (DataW.weightsEach Try.prog ts ds).all (· ≤ reachBytes) = true) {j : Nat} {t : TypeId} {d : DataW H} (ht : ts[j]? = some t) (hd : ds[j]? = some d) : ∀ m ∈ d.weights Try.prog t, m ≤ reachBytes := fun m hm => by
  have := List.all_eq_true.1 h m (DataW.weights_mem_each ht hd m hm)
  simpa using this
end Go.Proofs.Ytkgfohodahkmmaa
