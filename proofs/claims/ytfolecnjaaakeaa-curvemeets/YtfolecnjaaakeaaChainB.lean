/- Curves one behind the other: Join. -/
import Derived.Test.YtfolecnjaaakeaaChainA
namespace Go.Proofs.Ytfolecnjaaakeaa
open Go.RowKit
set_option linter.unusedVariables false
set_option linter.unusedSimpArgs false

/-- Curves handed in, each by its pointer. -/
def PLs (w : World) (g o : Nat) (ll : List (List (Nat × Nat))) : Prop := ∀ i, i < ll.length → ∃ b, w.cell? ⟨g, o + i, none⟩ = some (.pointer (some ⟨b, 0, none⟩)) ∧ CIs w b 0 (ll.getD i [])
theorem PLs.next {w w' : World} {g o : Nat} {ll : List (List (Nat × Nat))} (h : PLs w g o ll) (q : Q w w') : PLs w' g o ll := fun i hi => by
  obtain ⟨b, h1, h2⟩ := h i hi
  exact ⟨b, q.cell h1, h2.next q⟩
theorem curveInfo : ∃ i, Try.prog.info? 72 = some i ∧ i.size = 1 ∧ i.bytes = 24 ∧ i.zero = some (.agg #[.slice none 0 0]) :=
  info_of (by kernel_rfl) (by kernel_rfl)
/-- How far Join has come. -/
structure Joins (ll : List (List (Nat × Nat))) (w wr : World) (g k : Nat) : Prop where
  q : Q w wr
  new : w.heap.size ≤ g
  done : ∀ i, i < k → ∃ g' o' cap, wr.cell? ⟨g, i, none⟩ = some (.slice (some ⟨g', o', none⟩) (ll.getD i []).length cap) ∧ (ll.getD i []).length ≤ cap ∧ KIs w g' o' (ll.getD i [])
  room : ∀ j, j < ll.length → ∃ v, wr.cell? ⟨g, j, none⟩ = some v
  free : ∀ j, wr.frozen? ⟨g, j, none⟩ = false
theorem Joins.next {ll : List (List (Nat × Nat))} {w wr wx : World} {g k : Nat} (h : Joins ll w wr g k) (q : Q wr wx) : Joins ll w wx g k where
  q := h.q.trans q
  new := h.new
  done := fun i hi => by obtain ⟨g', o', cap, h1, h2⟩ := h.done i hi; exact ⟨g', o', cap, q.cell h1, h2⟩
  room := fun j hj => by obtain ⟨v, hv⟩ := h.room j hj; exact ⟨v, q.cell hv⟩
  free := fun j => by rw [q.2]; exact h.free j
theorem Joins.step {ll : List (List (Nat × Nat))} {w wr : World} {g k : Nat} (h : Joins ll w wr g k) (hk : k < ll.length) {g' o' cap : Nat} (h2 : (ll.getD k []).length ≤ cap) (h4 : KIs w g' o' (ll.getD k [])) :
    Joins ll w (wr.setCell ⟨g, k, none⟩ (.slice (some ⟨g', o', none⟩) (ll.getD k []).length cap)) g (k + 1) := by
  obtain ⟨u, hu⟩ := h.room k hk
  refine ⟨h.q.set h.new _, h.new, fun i hi => ?_, fun j hj => ?_, fun j => ?_⟩
  · by_cases e : i = k
    · subst e
      exact ⟨g', o', cap, World.cell?_setCell_same _ _ _ hu, h2, h4⟩
    · rw [World.cell?_setCell_other _ _ _ _ (by simp <;> omega)]
      exact h.done i (by omega)
  · by_cases e : j = k
    · subst e; exact ⟨_, World.cell?_setCell_same _ _ _ hu⟩
    · rw [World.cell?_setCell_other _ _ _ _ (by simp <;> omega)]; exact h.room j hj
  · rw [World.frozen?_setCell]; exact h.free j

set_option maxHeartbeats 4000000 in
set_option maxRecDepth 100000 in
theorem join_any (g o cap : Nat) (ll : List (List (Nat × Nat))) (h1 : 1 ≤ ll.length) (h8 : ll.length ≤ 8) (w : World) (hk : PLs w g o ll) :
    Calls Try.prog 24 #[.slice (some ⟨g, o, none⟩) ll.length cap] w fun e w' => Q w w' ∧ ∃ b, e = .returned (.tuple #[.pointer (some ⟨b, 0, none⟩), .int .i64 0]) ∧ ChIs w' b ll := by
  have HK : Hid (PLs w g o ll) := hk
  obtain ⟨i, i1, i2, i3, i4⟩ := curveInfo
  obtain ⟨N, hN⟩ : ∃ N, ll.length = N := ⟨_, rfl⟩
  obtain ⟨M, hM⟩ : ∃ M, M = madeCells (Value.agg #[.slice none 0 0]).cells (N * 1) := ⟨_, rfl⟩
  have hms : M.size = N := by rw [hM]; simpa using size_madeCells _ (N * 1)
  rw [hN] at h1 h8 ⊢
  have hmk : ∀ w : World, (Instr.makeSlice 81 (.int .i64 (N : Int)) (.int .i64 (N : Int))).run Try.prog w = .ok (.slice (some ⟨w.heap.size, 0, none⟩) N N) (w.alloc (.cells M 72)) := fun w => by
    have := run_make (P := Try.prog) w 81 72 i _ Try.underlying81 i1 i4 .i64 .i64 N N (by omega) (by omega) (by rw [i3]; omega) (by omega)
    rw [i2] at this
    simp only [Int.toNat_natCast] at this
    rw [hM]
    exact this
  have j1 : ¬ (N : Int) < 1 := by omega
  have j2 : ¬ (8 : Int) < (N : Int) := by omega
  have j3 : decide ((N : Int) < 1) = false := decide_eq_false j1
  have j4 : decide ((8 : Int) < (N : Int)) = false := decide_eq_false j2
  clear hk i1 i2 i3 i4 hM
  go_enter Try.func24, Try.ntmps24
  go_wp2_with fail
  have hb : (w.alloc (.cells M 72)).heap[w.heap.size]? = some (.cells M 72 (0, 0)) := heap_alloc_new w _
  have J0 : Hid (Joins ll w ((w.alloc (.cells M 72)).alloc (.cells #[.slice (some ⟨w.heap.size, 0, none⟩) N N] 83)) w.heap.size 0) := by
    refine ⟨((Q.refl w).cells _ _).cells _ _, Nat.le_refl _, fun i hi => absurd hi (Nat.not_lt_zero _), fun j hj => ?_, fun j => ?_⟩
    · have : (w.alloc (.cells M 72)).cell? ⟨w.heap.size, j, none⟩ = some (M[j]'(by omega)) := by
        rw [cell_of_row _ _ j M 72 (0, 0) hb]
        exact Array.getElem?_eq_getElem (by omega)
      exact ⟨_, cell_1 this _ _⟩
    · rw [((Q.refl _).cells _ _).2]
      exact frozen_of_row _ _ _ _ _ hb
  have C0 : ((w.alloc (.cells M 72)).alloc (.cells #[.slice (some ⟨w.heap.size, 0, none⟩) N N] 83)).cell? ⟨w.heap.size + 1, 0, none⟩ = some (.slice (some ⟨w.heap.size, 0, none⟩) N N) := by simp [go_sem]
  clear hb hmk hms
  generalize World.alloc (w.alloc _) _ = w0 at J0 C0 ⊢
  go_loopg [22] N (fun m s22 wr => ∃ k : Nat, s22 = .int .i64 k ∧ k + m = N ∧ Hid (Joins ll w wr w.heap.size k) ∧ wr.cell? ⟨w.heap.size + 1, 0, none⟩ = some (.slice (some ⟨w.heap.size, 0, none⟩) N N))
  case atStart => exact ⟨0, rfl, by omega, J0, C0⟩
  case round =>
    obtain ⟨k, rfl, hm, JK, CK⟩ := hrel
    by_cases hkn : k < N
    · have hkl : k < ll.length := by omega
      obtain ⟨bk, p1, p2⟩ := HK.out k hkl
      obtain ⟨g', o', c', p3, p4, p5⟩ := p2.it
      obtain ⟨u, hu⟩ := JK.out.room k hkl
      have z1 := JK.out.free k
      have J1 : Hid (Joins ll w (wr.drew.setCell ⟨w.heap.size, k, none⟩ (.slice (some ⟨g', o', none⟩) (ll.getD k []).length c')) w.heap.size (k + 1)) := (JK.out.next (Q.refl wr).drew).step hkl p4 p5
      replace p1 := JK.out.q.cell p1
      replace p3 := JK.out.q.cell p3
      obtain ⟨L, hL⟩ : ∃ L, (ll.getD k []).length = L := ⟨_, rfl⟩
      rw [hL] at p3 p4 J1
      have hi0 : (0 : Int) ≤ (k : Int) := by omega
      have hi1 : (k : Int) < (N : Int) := by omega
      have CK' : (wr.drew.setCell ⟨w.heap.size, k, none⟩ (.slice (some ⟨g', o', none⟩) L c')).cell? ⟨w.heap.size + 1, 0, none⟩ = some (.slice (some ⟨w.heap.size, 0, none⟩) N N) := by
        rw [World.cell?_setCell_other _ _ _ _ (by simp <;> omega)]
        exact (Q.refl wr).drew.cell CK
      clear hL p5 p2
      go_wp2_with fail
      go_region
      all_goals
        go_wp2_with fail
        go_roundg (N - (k + 1))
        case measure => go_light; omega
        case rel => go_light; exact ⟨k + 1, by go_num, by omega, J1, CK'⟩
    · have hk : k = N := by omega
      subst hk
      go_wp2_with fail
      refine bodyPost_ret (v := .tuple #[.pointer (some ⟨w.heap.size + 1, 0, none⟩), .int .i64 0]) (by simp [results, Try.results24, go_sem]) rfl ⟨JK.out.q, _, rfl, ?_⟩
      refine ⟨w.heap.size, k, by rw [hN]; exact CK, by rw [hN]; exact Nat.le_refl _, fun i hi => ?_⟩
      obtain ⟨g', o', c', a1, a2, a3⟩ := JK.out.done i (by omega)
      exact ⟨g', o', c', by rw [Nat.zero_add]; exact a1, a2, a3.next JK.out.q⟩
end Go.Proofs.Ytfolecnjaaakeaa
