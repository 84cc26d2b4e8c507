/- Copying a list of samples to the head of one that was made. -/
import Derived.Test.YtikhmlcmmabapaaG1a232a06
import Derived.Laws.CopyOwn
import Derived.Laws.AppendOwn
import Derived.OwnWalk
namespace Go.Proofs.Ytikhmlcmmabapaa
open Go.RowKit
set_option linter.unusedVariables false
set_option linter.unusedSimpArgs false

theorem frozen_rowR {w w' : World} {g : Nat} {cs cs' : Array Value} {e e' : TypeId} (h : w.heap[g]? = some (.cells cs e (0, 0))) (h' : w'.heap[g]? = some (.cells cs' e' (0, 0))) (ho : ∀ k, k ≠ g → w'.heap[k]? = w.heap[k]?) (a : Addr) : w'.frozen? a = w.frozen? a := by
  by_cases hb : a.block = g
  · unfold World.frozen?
    rw [hb, h, h']
  · exact World.frozen?_of_block (ho _ hb)
/-- Samples as cells. -/
def celR (S : List Nat) : List Value := S.map fun (x : Nat) => Value.int .u32 (x : Int)
theorem celR_length (S : List Nat) : (celR S).length = S.length := by simp [celR]
theorem celR_get {S : List Nat} {i : Nat} (h : i < S.length) : (celR S)[i]? = some (.int .u32 (S.getD i 0 : Nat)) := by
  unfold celR
  rw [List.getElem?_map, List.getD_eq_getElem?_getD, List.getElem?_eq_getElem h]; rfl
/-- A sample of a list that is lent, or of the room behind it. -/
def lf (S : List Nat) (i : Nat) : Nat := if i < S.length then S.getD i 0 else (2141192202 + i) % 4294967296
def lentL (S : List Nat) : List Nat := (List.range (S.length + 5)).map (lf S)
theorem lentL_length (S : List Nat) : (lentL S).length = S.length + 5 := by simp [lentL]
theorem lentL_get {S : List Nat} {i : Nat} (h : i < S.length + 5) : (lentL S).getD i 0 = lf S i := by
  unfold lentL
  rw [List.getD_eq_getElem?_getD, List.getElem?_map, List.getElem?_range h]; rfl
theorem lentL_us {w : World} {g : Nat} {S : List Nat} (h : UIs w g 0 (lentL S)) : UIs w g 0 S := fun i hi => by
  rw [h i (by rw [lentL_length]; omega), lentL_get (by omega)]
  unfold lf
  rw [if_pos hi]
theorem make_row (n : Nat) (hn : n ≤ 35184372088832) : ∃ M : Array Value, M.size = n ∧ (∀ w : World, (Instr.makeSlice 22 (.int .i64 (n : Int)) (.int .i64 (n : Int))).run Try.prog w = .ok (.slice (some ⟨w.heap.size, 0, none⟩) n n) (w.alloc (.cells M 38))) := by
  obtain ⟨i, i1, i2, i3, i4⟩ := u32Info
  refine ⟨madeCells (Value.int .u32 0).cells (n * 1), by rw [size_madeCells]; omega, fun w => ?_⟩
  have := run_make (P := Try.prog) w 22 38 i _ Try.underlying22 i1 i4 .i64 .i64 n n (by omega) (by omega) (by rw [i3]; omega) (by omega)
  rw [i2] at this
  simp only [Int.toNat_natCast] at this
  exact this
theorem addr_add (g o j : Nat) : (⟨g, o, none⟩ : Addr).add j = ⟨g, o + j, none⟩ := by unfold Addr.add; split <;> simp_all
/-- Copying a list to the head of one that was made. -/
theorem copy_row (w : World) (n N : Nat) (hN : n ≤ N) (a : Option Addr) (cap : Nat) (S : List Nat) (hn : S.length = n) (hS : USl w (.slice a n cap) S) (M : Array Value) (hM : M.size = N) :
    ∃ w2, (Builtin.copy_ #[22, 22] 3 #[.slice (some ⟨w.heap.size, 0, none⟩) N N, .slice a n cap]).run Try.prog (w.alloc (.cells M 38)) = .ok (goInt n) w2 ∧ Fill w w2 w.heap.size N (lf S) n := by
  obtain ⟨iu, i1, i2, i3, i4⟩ := u32Info
  have hinf : (Try.prog.info? 38).map (·.size) = some 1 := by rw [i1]; simp [i2]
  have hb : (w.alloc (.cells M 38)).heap[w.heap.size]? = some (.cells M 38 (0, 0)) := heap_alloc_new w _
  have hq : Q w (w.alloc (.cells M 38)) := (Q.refl w).cells _ _
  by_cases h0 : n = 0
  · refine ⟨w.alloc (.cells M 38), ?_, hq, Nat.le_refl _, fun i hi => by omega, fun j hj => ?_, fun j => frozen_of_row _ _ _ _ _ hb⟩
    · have := run_copy_none (P := Try.prog) (w.alloc (.cells M 38)) 22 22 3 38 (some ⟨w.heap.size, 0, none⟩) a N N n cap Try.underlying22 hinf (by rw [h0]; exact Nat.zero_min _)
      rw [this, h0]; rfl
    · rw [cell_of_row _ _ j M 38 (0, 0) hb]
      exact ⟨_, Array.getElem?_eq_getElem (by omega)⟩
  · rcases hS with ⟨g, o, cap', h1, h2, h3⟩ | ⟨a', c', h1, h2⟩
    · injection h1 with h1 _ _
      subst h1
      have hcl : (celR S).length = n := by rw [celR_length, hn]
      have hrun := run_copy_row (P := Try.prog) (w.alloc (.cells M 38)) 22 22 3 38 w.heap.size 0 N N ⟨g, o, none⟩ n cap M 38 (celR S) Try.underlying22 hinf hb
        (by rw [hcl]; exact (Nat.min_eq_left hN).symm)
        (fun j v hj => by
          have hjl : j < S.length := by have := (List.getElem?_eq_some_iff.1 hj).1; rw [celR_length] at this; exact this
          rw [celR_get hjl] at hj
          have hj := Option.some.inj hj
          rw [← hj, addr_add]
          exact hq.cell (h3 j hjl))
        (by rw [hcl]; omega)
        (by intro v hv
            unfold celR at hv
            rw [List.mem_map] at hv
            obtain ⟨x, _, rfl⟩ := hv
            rfl)
      rw [hcl] at hrun
      refine ⟨_, hrun, ?_⟩
      have hrow := setRow_heap (w.alloc (.cells M 38)) w.heap.size M (M.toList.take 0 ++ celR S ++ M.toList.drop (0 + n)).toArray 38 (0, 0) hb
      have hfr := frozen_rowR hb hrow (fun k hk => setRow_other _ w.heap.size k _ hk)
      refine ⟨⟨below_setRow hq.1 (Nat.le_refl _) _, fun x => (hfr x).trans (hq.2 x)⟩, Nat.le_refl _, fun i hi => ?_, fun j hj => ?_, fun j => frozen_of_row _ _ _ _ _ hrow⟩
      · rw [cell_of_row _ _ _ _ 38 (0, 0) hrow]
        simp only [List.take_zero, List.nil_append]
        rw [List.getElem?_toArray, List.getElem?_append_left (by rw [hcl]; exact hi), celR_get (by omega)]
        unfold lf
        rw [if_pos (by omega)]
      · rw [cell_of_row _ _ _ _ 38 (0, 0) hrow]
        refine ⟨_, Array.getElem?_eq_getElem ?_⟩
        simp [hcl, hM]
        omega
    · injection h1 with _ h1 _
      omega
theorem copy_rowL (w : World) (n : Nat) (a : Option Addr) (cap : Nat) (S : List Nat) (hn : S.length = n) (hS : USl w (.slice a n cap) S) (M : Array Value) (hM : M.size = n) :
    ∃ w2, (Builtin.copy_ #[22, 22] 3 #[.slice (some ⟨w.heap.size, 0, none⟩) n n, .slice a n cap]).run Try.prog (w.alloc (.cells M 38)) = .ok (goInt n) w2 ∧ Fill w w2 w.heap.size n (lf S) n ∧ w.heap.size < w2.heap.size := by
  by_cases h0 : n = 0
  · obtain ⟨iu, i1, i2, i3, i4⟩ := u32Info
    have hinf : (Try.prog.info? 38).map (·.size) = some 1 := by rw [i1]; simp [i2]
    have hb : (w.alloc (.cells M 38)).heap[w.heap.size]? = some (.cells M 38 (0, 0)) := heap_alloc_new w _
    refine ⟨w.alloc (.cells M 38), ?_, ⟨(Q.refl w).cells _ _, Nat.le_refl _, fun i hi => by omega, fun j hj => by omega, fun j => frozen_of_row _ _ _ _ _ hb⟩, by simp⟩
    have := run_copy_none (P := Try.prog) (w.alloc (.cells M 38)) 22 22 3 38 (some ⟨w.heap.size, 0, none⟩) a n n n cap Try.underlying22 hinf (by rw [h0]; exact Nat.zero_min _)
    rw [this, h0]; rfl
  · obtain ⟨w2, h1, h2⟩ := copy_row w n n (Nat.le_refl _) a cap S hn hS M hM
    obtain ⟨u, hu⟩ := h2.room 0 (by omega)
    exact ⟨w2, h1, h2, World.block_lt_of_cell? _ _ hu⟩
end Go.Proofs.Ytikhmlcmmabapaa
/- Lists of samples that are the same. -/
namespace Go.Proofs.Ytikhmlcmmabapaa
open Go.RowKit
set_option linter.unusedVariables false
set_option linter.unusedSimpArgs false

set_option maxHeartbeats 4000000 in
set_option maxRecDepth 100000 in
theorem words_eq (v v' : Value) (xs : List Nat) (w : World) (h : USl w v xs) (h' : USl w v' xs) (hn : xs.length ≤ 9223372036854775807) :
    Calls Try.prog 19 #[v, v'] w fun e w' => e = .returned (.bool true) ∧ Q w w' := by
  obtain ⟨a, cap, ev⟩ := h.form
  obtain ⟨a', cap', ev'⟩ := h'.form
  subst ev ev'
  have HS : Hid (USl w (.slice a xs.length cap) xs) := h
  have HT : Hid (USl w (.slice a' xs.length cap') xs) := h'
  obtain ⟨n, en⟩ : ∃ n, xs.length = n := ⟨_, rfl⟩
  have HN : Hid (xs.length = n) := en
  rw [en] at HS HT hn ⊢
  have hnn : ((n : Int) == (n : Int)) = true := by simp
  clear h h' en
  go_enter Try.func19, Try.ntmps19
  go_wp2_with fail
  go_loopg [5] n (fun m s5 wx => ∃ i : Nat, s5 = .int .i64 i ∧ i + m = n ∧ Hid (Q w wx))
  case atStart => exact ⟨0, rfl, by omega, Q.refl w⟩
  case round =>
    obtain ⟨i, rfl, him, HQ⟩ := hrel
    by_cases hi : i < n
    · have hi0 : (0 : Int) ≤ (i : Int) := by omega
      have hi1 : (i : Int) < (n : Int) := by omega
      obtain ⟨g, o, c, e1, e2, e3⟩ := HS.out.some (by rw [HN.out]; omega)
      obtain ⟨g', o', c', f1, f2, f3⟩ := HT.out.some (by rw [HN.out]; omega)
      injection e1 with e1 hh1 hh2
      clear hh1 hh2
      injection f1 with f1 hh1 hh2
      clear hh1 hh2
      subst e1 f1
      have c1 := HQ.out.cell (e3 i (by rw [HN.out]; exact hi))
      have c2 := HQ.out.cell (f3 i (by rw [HN.out]; exact hi))
      obtain ⟨z, hz⟩ : ∃ z, xs.getD i 0 = z := ⟨_, rfl⟩
      rw [hz] at c1 c2
      have hzz : ((z : Int) == (z : Int)) = true := by simp
      have n0 := qw_some wr
      have d1 := qw_cell c1
      have d2 := qw_cell c2
      clear hz e2 e3 f2 f3
      go_wp2_with fail
      refine wp_region_quiet_Q (by kernel_rfl) (by kernel_rfl) ?_
      repeat (first | go_big_quiet_step (fail) | quiet_step (fail))
      refine wpQuiet_nil ?_
      intro w4 hw'
      have hq4 := qw_out hw'
      have HQ4 : Hid (Q w w4) := HQ.out.trans hq4
      clear hw' n0 d1 d2
      go_wp2_with fail
      go_roundg (n - (i + 1))
      case measure => go_light; omega
      case rel => go_light; exact ⟨i + 1, by go_num, by omega, HQ4⟩
    · have hie : i = n := by omega
      go_wp2_with fail
      go_ret
      exact ⟨rfl, HQ.out⟩
end Go.Proofs.Ytikhmlcmmabapaa
