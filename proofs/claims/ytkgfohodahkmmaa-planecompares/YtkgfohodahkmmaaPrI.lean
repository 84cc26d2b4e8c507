/- The document's Copy. -/
import Derived.Test.YtkgfohodahkmmaaPrH
import Derived.Laws.CopyOwn
import Derived.Laws.AppendOwn
import Derived.OwnWalk
namespace Go.Proofs.Ytkgfohodahkmmaa
open Go.RowKit
set_option linter.unusedVariables false
set_option linter.unusedSimpArgs false

theorem frozen_row2 {w w' : World} {g : Nat} {cs cs' : Array Value} {e e' : TypeId} (h : w.heap[g]? = some (.cells cs e (0, 0))) (h' : w'.heap[g]? = some (.cells cs' e' (0, 0))) (ho : ∀ k, k ≠ g → w'.heap[k]? = w.heap[k]?) (a : Addr) : w'.frozen? a = w.frozen? a := by
  by_cases hb : a.block = g
  · unfold World.frozen?
    rw [hb, h, h']
  · exact World.frozen?_of_block (ho _ hb)
/-- Samples as cells. -/
def cel (S : List Nat) : List Value := S.map fun (x : Nat) => Value.int .u32 (x : Int)
theorem cel_length (S : List Nat) : (cel S).length = S.length := by simp [cel]
theorem cel_get {S : List Nat} {i : Nat} (h : i < S.length) : (cel S)[i]? = some (.int .u32 (S.getD i 0 : Nat)) := by
  unfold cel
  rw [List.getElem?_map, List.getD_eq_getElem?_getD, List.getElem?_eq_getElem h]; rfl
set_option maxHeartbeats 1000000 in
set_option maxRecDepth 100000 in
theorem blank_row (a b : Nat) (hs : Size a b) (w : World) :
    Calls Try.prog 46 #[.int .i64 (a : Int), .int .i64 (b : Int)] w fun e w' => ∃ g n, e = .returned (.agg #[.int .i64 (a : Int), .int .i64 (b : Int), .slice (some ⟨g, 0, none⟩) n n]) ∧ n = a * b ∧ Hid (Fill w w' g n (fun _ => 0) n) ∧ Hid (∃ M : Array Value, w'.heap[g]? = some (.cells M 22 (0, 0))) := by
  obtain ⟨n, hn⟩ : ∃ n, a * b = n := ⟨_, rfl⟩
  have n2 : n ≤ 65536 := by rw [← hn]; exact hs.ab
  obtain ⟨M, hmk, hfill⟩ := make_u32 n (by omega)
  have hcast : (a : Int) * (b : Int) = (n : Int) := by rw [← Int.natCast_mul, hn]
  have HFl : Hid (∀ w : World, Fill w (w.alloc (.cells M 22)) w.heap.size n (fun _ => 0) n) := hfill
  have HN : Hid (a * b = n) := hn
  have ha := hs.a2
  have hb := hs.b2
  obtain ⟨w1, hw1⟩ : ∃ w1, w.alloc (.cells #[.int .i64 0, .int .i64 0, .slice none 0 0] 25) = w1 := ⟨_, rfl⟩
  have Q1 : Hid (Q w w1) := by rw [← hw1]; exact ((Q.refl w).cells _ _)
  have S1 : w1.heap.size = w.heap.size + 1 := by rw [← hw1]; simp
  have z00 : w1.cell? ⟨w.heap.size, 0, none⟩ = some (.int .i64 0) := by rw [← hw1]; simp [go_sem]
  have z01 : w1.cell? ⟨w.heap.size, 1, none⟩ = some (.int .i64 0) := by rw [← hw1]; simp [go_sem]
  have z02 : w1.cell? ⟨w.heap.size, 2, none⟩ = some (.slice none 0 0) := by rw [← hw1]; simp [go_sem]
  have yf : ∀ j, w1.frozen? ⟨w.heap.size, j, none⟩ = false := fun j => by rw [← hw1]; simp [go_sem]
  clear hfill hs hn
  go_enter Try.func46, Try.ntmps46
  go_wp2_with fail
  obtain ⟨w2, hw2⟩ : ∃ w2, ((w1.setCell ⟨w.heap.size, 0, none⟩ (.int .i64 (a : Int))).setCell ⟨w.heap.size, 1, none⟩ (.int .i64 (b : Int))).setCell ⟨w.heap.size, 2, none⟩ (.slice (some ⟨w.heap.size + 1, 0, none⟩) n n) = w2 := ⟨_, rfl⟩
  have S2 : w2.heap.size = w.heap.size + 1 := by rw [← hw2]; simp [S1]
  have Q2 : Q w w2 := by rw [← hw2]; exact ((Q1.out.put (Nat.le_refl _)).put (Nat.le_refl _)).put (Nat.le_refl _)
  have y0 : w2.cell? ⟨w.heap.size, 0, none⟩ = some (.int .i64 (a : Int)) := by rw [← hw2]; simp [go_sem, z00, z01, z02]
  have y1 : w2.cell? ⟨w.heap.size, 1, none⟩ = some (.int .i64 (b : Int)) := by rw [← hw2]; simp [go_sem, z00, z01, z02]
  have y2 : w2.cell? ⟨w.heap.size, 2, none⟩ = some (.slice (some ⟨w.heap.size + 1, 0, none⟩) n n) := by rw [← hw2]; simp [go_sem, z00, z01, z02]
  have F := HFl.out w2
  rw [S2] at F
  rw [hw2]
  replace y0 := F.q.cell y0
  replace y1 := F.q.cell y1
  replace y2 := F.q.cell y2
  refine bodyPost_ret (v := .agg #[.int .i64 (a : Int), .int .i64 (b : Int), .slice (some ⟨w.heap.size + 1, 0, none⟩) n n]) (by simp [results, Try.results46, go_sem, y0, y1, y2]) rfl ⟨w.heap.size + 1, n, rfl, HN.out.symm, ⟨Q2.trans F.q, by omega, F.done, F.room, F.free⟩, ⟨M, ?_⟩⟩
  rw [← S2]
  exact heap_alloc_new w2 _
set_option maxHeartbeats 4000000 in
set_option maxRecDepth 100000 in
theorem rcopy_any {a b : Nat} (hs : Size a b) {S : List Nat} (hl : S.length = a * b) (g o cap : Nat) (w : World) (hu : UIs w g o S) :
    Calls Try.prog 55 #[.agg #[.int .i64 (a : Int), .int .i64 (b : Int), .slice (some ⟨g, o, none⟩) S.length cap]] w fun e w' => ∃ gq n, e = .returned (.agg #[.int .i64 (a : Int), .int .i64 (b : Int), .slice (some ⟨gq, 0, none⟩) n n]) ∧ n = a * b ∧ Hid (Own w w' gq S) := by
  have hn : S.length ≤ 65536 := by rw [hl]; exact hs.ab
  obtain ⟨w1, hw1⟩ : ∃ w1, (w.alloc (.cells #[.int .i64 (a : Int), .int .i64 (b : Int), .slice (some ⟨g, o, none⟩) S.length cap] 25)).alloc (.cells #[.int .i64 0, .int .i64 0, .slice none 0 0] 25) = w1 := ⟨_, rfl⟩
  have Q1 : Hid (Q w w1) := by rw [← hw1]; exact (((Q.refl w).cells _ _).cells _ _)
  have S1 : w1.heap.size = w.heap.size + 1 + 1 := by rw [← hw1]; simp
  have z00 : w1.cell? ⟨w.heap.size, 0, none⟩ = some (.int .i64 (a : Int)) := by rw [← hw1]; simp [go_sem]
  have z01 : w1.cell? ⟨w.heap.size, 1, none⟩ = some (.int .i64 (b : Int)) := by rw [← hw1]; simp [go_sem]
  have z02 : w1.cell? ⟨w.heap.size, 2, none⟩ = some (.slice (some ⟨g, o, none⟩) S.length cap) := by rw [← hw1]; simp [go_sem]
  have z10 : w1.cell? ⟨w.heap.size + 1, 0, none⟩ = some (.int .i64 0) := by rw [← hw1]; simp [go_sem]
  have z11 : w1.cell? ⟨w.heap.size + 1, 1, none⟩ = some (.int .i64 0) := by rw [← hw1]; simp [go_sem]
  have z12 : w1.cell? ⟨w.heap.size + 1, 2, none⟩ = some (.slice none 0 0) := by rw [← hw1]; simp [go_sem]
  have yf : ∀ j, w1.frozen? ⟨w.heap.size + 1, j, none⟩ = false := fun j => by rw [← hw1]; simp [go_sem]
  obtain ⟨iu, i1, i2, i3, i4⟩ := u32Info
  have hinf : (Try.prog.info? 22).map (·.size) = some 1 := by rw [i1]; simp [i2]
  have HI : Hid ((Try.prog.info? 22).map (·.size) = some 1) := hinf
  have HS : Hid (Size a b) := hs
  have HL : Hid (S.length = a * b) := hl
  have HU : Hid (UIs w g o S) := hu
  clear hs hl hu i1 i2 i3 i4 hinf
  go_enter Try.func55, Try.ntmps55
  go_wp2_with fail
  clear hw1
  refine (blank_row a b HS.out w1).mono ?_
  rintro e w3 ⟨gq, nq, rfl, hnq, FL, MR⟩
  have HNQ : Hid (nq = a * b) := hnq
  have hSn : S.length = nq := by rw [hnq]; exact HL.out
  clear hnq
  obtain ⟨M, hM⟩ := id MR.out
  have hlt : gq < w3.heap.size := by
    obtain ⟨u, hu⟩ := FL.out.room 0 (by rw [HNQ.out]; exact HS.out.pos)
    exact World.block_lt_of_cell? _ _ hu
  have hMs : nq ≤ M.size := by
    obtain ⟨u, hu⟩ := FL.out.room (nq - 1) (by have := HS.out.pos; rw [← HNQ.out] at this; omega)
    rw [cell_of_row _ _ _ M 22 (0, 0) hM] at hu
    have := (Array.getElem?_eq_some_iff.1 hu).1
    omega
  obtain ⟨w4, hw4⟩ : ∃ w4, w3.alloc (.cells #[.int .i64 (a : Int), .int .i64 (b : Int), .slice (some ⟨gq, 0, none⟩) nq nq] 25) = w4 := ⟨_, rfl⟩
  have q4 : Q w3 w4 := by rw [← hw4]; exact (Q.refl _).cells _ _
  have v0 : w4.cell? ⟨w3.heap.size, 0, none⟩ = some (.int .i64 (a : Int)) := by rw [← hw4]; simp [go_sem]
  have v1 : w4.cell? ⟨w3.heap.size, 1, none⟩ = some (.int .i64 (b : Int)) := by rw [← hw4]; simp [go_sem]
  have v2 : w4.cell? ⟨w3.heap.size, 2, none⟩ = some (.slice (some ⟨gq, 0, none⟩) nq nq) := by rw [← hw4]; simp [go_sem]
  have hM4 : w4.heap[gq]? = some (.cells M 22 (0, 0)) := by rw [q4.1.block gq hlt]; exact hM
  replace z00 := (FL.out.q.trans q4).cell z00
  replace z01 := (FL.out.q.trans q4).cell z01
  replace z02 := (FL.out.q.trans q4).cell z02
  replace z10 := (FL.out.q.trans q4).cell z10
  replace z11 := (FL.out.q.trans q4).cell z11
  replace z12 := (FL.out.q.trans q4).cell z12
  replace yf : ∀ j, w4.frozen? ⟨w.heap.size + 1, j, none⟩ = false := fun j => by rw [(FL.out.q.trans q4).2]; exact yf j
  have QT : Hid (Q w w4) := Q1.out.trans (FL.out.q.trans q4)
  have hg1 : w1.heap.size ≤ gq := FL.out.new
  obtain ⟨V, hV⟩ : ∃ V, w3.heap.size = V := ⟨_, rfl⟩
  rw [hV] at v0 v1 v2 hlt
  have HSRC : Hid (∀ j v, (cel S)[j]? = some v → w4.cell? ((⟨g, o, none⟩ : Addr).add j) = some v) := by
    intro j v hj
    have hjl : j < S.length := by have := (List.getElem?_eq_some_iff.1 hj).1; rw [cel_length] at this; exact this
    rw [cel_get hjl] at hj
    injection hj with hj
    rw [← hj, show (⟨g, o, none⟩ : Addr).add j = ⟨g, o + j, none⟩ by unfold Addr.add; split <;> simp_all]
    exact QT.out.cell (HU.out j hjl)
  have HM4 : Hid (w4.heap[gq]? = some (.cells M 22 (0, 0))) := hM4
  have HLC : Hid ((cel S).length = Nat.min S.length nq) := by show _ = _; rw [cel_length, hSn]; exact (Nat.min_self _).symm
  have HFT : Hid (0 + (cel S).length ≤ M.size) := by show _ ≤ _; rw [cel_length]; omega
  have H1 : Hid (∀ v ∈ cel S, v.oneCell' = true) := by
    intro v hv
    unfold cel at hv
    rw [List.mem_map] at hv
    obtain ⟨x, _, rfl⟩ := hv
    rfl
  have hVg : V ≠ gq := by omega
  have hRg : w.heap.size + 1 ≠ gq := by omega
  have oth : ∀ (row : Array Value) (c j : Nat), c ≠ gq → (w4.setRow gq row).cell? ⟨c, j, none⟩ = w4.cell? ⟨c, j, none⟩ := fun row c j hc => World.cell?_of_block (setRow_other w4 gq c row hc)
  have kv0 : ∀ row : Array Value, (w4.setRow gq row).cell? ⟨V, 0, none⟩ = some (.int .i64 (a : Int)) := fun row => by rw [oth row V 0 hVg]; exact v0
  have kv1 : ∀ row : Array Value, (w4.setRow gq row).cell? ⟨V, 1, none⟩ = some (.int .i64 (b : Int)) := fun row => by rw [oth row V 1 hVg]; exact v1
  have kv2 : ∀ row : Array Value, (w4.setRow gq row).cell? ⟨V, 2, none⟩ = some (.slice (some ⟨gq, 0, none⟩) nq nq) := fun row => by rw [oth row V 2 hVg]; exact v2
  have kr0 : ∀ row : Array Value, (w4.setRow gq row).cell? ⟨w.heap.size + 1, 0, none⟩ = some (.int .i64 0) := fun row => by rw [oth row _ 0 hRg]; exact z10
  have kr1 : ∀ row : Array Value, (w4.setRow gq row).cell? ⟨w.heap.size + 1, 1, none⟩ = some (.int .i64 0) := fun row => by rw [oth row _ 1 hRg]; exact z11
  have kr2 : ∀ row : Array Value, (w4.setRow gq row).cell? ⟨w.heap.size + 1, 2, none⟩ = some (.slice none 0 0) := fun row => by rw [oth row _ 2 hRg]; exact z12
  have krf : ∀ (row : Array Value) (j : Nat), (w4.setRow gq row).frozen? ⟨w.heap.size + 1, j, none⟩ = false := fun row j => by rw [World.frozen?_of_block (setRow_other w4 gq (w.heap.size + 1) row hRg)]; exact yf j
  have OWN : Hid (Own w (w4.setRow gq (M.toList.take 0 ++ (cel S ++ M.toList.drop (0 + (cel S).length))).toArray) gq S) := by
    have hrow := setRow_heap w4 gq M (M.toList.take 0 ++ (cel S ++ M.toList.drop (0 + (cel S).length))).toArray 22 (0, 0) hM4
    have hfr := frozen_row2 hM4 hrow (fun k hk => setRow_other w4 gq k _ hk)
    refine ⟨⟨?_, fun x => (hfr x).trans (QT.out.2 x)⟩, by omega, fun i hi => ?_, fun j => ?_⟩
    · exact below_setRow QT.out.1 (by omega) _
    · rw [cell_of_row _ _ _ _ 22 (0, 0) hrow]
      have hi2 : i < (cel S).length := by rw [cel_length]; exact hi
      simp only [List.take_zero, List.nil_append]
      rw [List.getElem?_toArray, show 0 + i = i from Nat.zero_add i, List.getElem?_append_left hi2]
      exact cel_get hi
    · exact frozen_of_row _ _ _ _ _ hrow
  have HSN : Hid (S.length = nq) := hSn
  obtain ⟨ROW, hROW⟩ : ∃ ROW, (M.toList.take 0 ++ (cel S ++ M.toList.drop (0 + (cel S).length))).toArray = ROW := ⟨_, rfl⟩
  rw [hROW] at OWN
  have hcp := run_copy_row (P := Try.prog) w4 23 23 3 22 gq 0 nq nq ⟨g, o, none⟩ S.length cap M 22 (cel S) Try.underlying23 HI.out HM4.out HLC.out HSRC.out HFT.out H1.out
  rw [List.append_assoc, hROW] at hcp
  have HROW : Hid ((M.toList.take 0 ++ (cel S ++ M.toList.drop (0 + (cel S).length))).toArray = ROW) := hROW
  clear hROW
  clear FL MR hM hM4 q4 hSn oth
  go_wp2_with fail
  refine bodyPost_ret (v := .agg #[.int .i64 (a : Int), .int .i64 (b : Int), .slice (some ⟨gq, 0, none⟩) nq nq]) (by simp [results, Try.results55, go_sem, kr0, kr1, kr2]) rfl ⟨gq, nq, rfl, HNQ.out, ?_⟩
  exact ((OWN.out.set (by omega) hRg).set (by omega) hRg).set (by omega) hRg
end Go.Proofs.Ytkgfohodahkmmaa
