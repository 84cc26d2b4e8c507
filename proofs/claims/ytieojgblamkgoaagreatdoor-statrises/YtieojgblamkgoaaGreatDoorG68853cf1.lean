/- Appending to a list of the call's own: what lies where, and that nothing else is touched. -/
import Derived.Test.YtieojgblamkgoaaGreatDoorG48a8b647
import Derived.Deep.AppendLies
import Derived.Deep.RegionLaw
namespace Go.Proofs.YtieojgblamkgoaaGreatDoor
open Go.RowKit

theorem frozen_all_row {w w' : World} {g : Nat} {cs cs' : Array Value} {e e' : TypeId} (h : w.heap[g]? = some (.cells cs e (0, 0))) (h' : w'.heap[g]? = some (.cells cs' e' (0, 0))) (ho : ∀ k, k ≠ g → w'.heap[k]? = w.heap[k]?) (a : Addr) : w'.frozen? a = w.frozen? a := by
  by_cases hb : a.block = g
  · unfold World.frozen?
    rw [hb, h, h']
  · exact World.frozen?_of_block (ho _ hb)

theorem run_app_q {P : Program} (w w0 : World) (q0 : Q w0 w) (t ty : TypeId) (e : TypeId) (i : TypeInfo) (z : Value) (size bytes : Nat) (ht : P.underlying t = some (.slice e)) (hi : P.info? e = some i) (hz : i.zero = some z)
    (hsize : i.size = size) (hby : i.bytes = bytes) (hzs : z.cells.size = size) (hsz : 0 < size)
    (v : Value) (n : Nat) (xs : List Value) (hown : w.ownsRow w0.heap.size e size v n xs)
    (ad : Addr) (m c : Nat) (news : List Value) (hl : news.length = m * size) (hnews : ∀ j u, news[j]? = some u → w.cell? (ad.add j) = some u) (h1 : ∀ u ∈ news, u.oneCell' = true)
    (hm : 0 < m) (h63 : n + m ≤ maxLen) (hbytes : (n + m) * bytes ≤ 140737488355328) :
    ∃ g cap w', (Builtin.append_ #[t, t] ty #[v, .slice (some ad) m c]).run P w = .ok (.slice (some ⟨g, 0, none⟩) (n + m) cap) w' ∧
      w'.ownsRow w0.heap.size e size (.slice (some ⟨g, 0, none⟩) (n + m) cap) (n + m) (xs ++ news) ∧ Q w0 w' := by
  obtain ⟨g, cap, w', hr, h2, h3, h4, h5⟩ := run_append_lies (P := P) w t ty w0.heap.size e i z size bytes ht hi hz hsize hby hzs hsz v n xs hown ad m c news hl hnews h1 hm h63 hbytes q0.1.size _ rfl
  refine ⟨g, cap, w', hr, h2, ⟨⟨h3.os.trans q0.1.os, h3.tape.trans q0.1.tape, h3.output.trans q0.1.output, Nat.le_trans q0.1.size h3.size, fun k hk => ?_⟩, fun a => ?_⟩⟩
  · have hk2 : k < w.heap.size := Nat.lt_of_lt_of_le hk q0.1.size
    refine (h3.block k hk2 ?_).trans (q0.1.block k hk)
    intro hh
    rcases hown.2 with ⟨rfl, _⟩ | ⟨g', cap', cur, rfl, hb, _⟩
    · exact absurd hh (by simp [Value.ownBlock])
    · simp [Value.ownBlock] at hh
      omega
  · refine Eq.trans ?_ (q0.2 a)
    subst hsize
    have hsmall : n + m ≤ 9223372036854775807 := by simp only [maxLen] at h63; omega
    have hlt : n + m ≤ 9223372036854775807 := hsmall
    rcases hown.2 with ⟨rfl, rfl⟩ | ⟨g', cap', cur, rfl, hb, hg, hnc, hcm, hcs, htake⟩
    · have hr2 := run_append_nil (P := P) w t ty e i z ht hi hz ad m c news hl hnews (by omega) (by omega) (by rw [hby]; have hb := hbytes; simp only [Nat.zero_add] at hb; omega)
      rw [hr2] at hr
      injection hr with _ hr
      rw [← hr]
      exact frozen?_alloc_cells _ _ _ a
    · by_cases hroom : n + m ≤ cap'
      · have hfit : n * i.size + news.length ≤ cur.size := by rw [hl, hcs, ← Nat.add_mul]; exact Nat.mul_le_mul_right _ hroom
        have hr2 := run_append_room (P := P) w t ty e i ht hi g' n cap' cur hg ad m c news hl hnews h1 hroom hfit
        rw [hr2] at hr
        injection hr with _ hr
        rw [← hr]
        exact frozen_all_row hg (setRow_heap w g' cur _ e _ hg) (fun k hk => setRow_other w g' k _ (fun e => hk e)) a
      · have holds : ∀ j u, xs[j]? = some u → w.cell? ((⟨g', 0, none⟩ : Addr).add j) = some u := by
          intro j u hu
          rw [show (⟨g', 0, none⟩ : Addr).add j = ⟨g', j, none⟩ by unfold Addr.add; split <;> simp_all, cell_of_row _ _ j cur e (0, 0) hg]
          rw [← htake] at hu
          have hj : j < n * i.size := by
            have := (List.getElem?_eq_some_iff.1 hu).1
            simp at this; omega
          rw [List.getElem?_take, if_pos hj] at hu
          simpa using hu
        have hr2 := run_append_grow (P := P) w t ty e i z ht hi hz ⟨g', 0, none⟩ n cap' xs hown.1 holds ad m c news hl hnews (by omega) (by omega) (growslice_fits (by omega) (by rw [hby]; exact hbytes))
        rw [hr2] at hr
        injection hr with _ hr
        rw [← hr]
        exact frozen?_alloc_cells _ _ _ a

end Go.Proofs.YtieojgblamkgoaaGreatDoor
