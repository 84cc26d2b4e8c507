/- A Room: what it lends, and that it holds it. -/
import Derived.Test.YtkgfohodahkmmaaRmA
import Derived.Laws.CopyOwn
import Derived.Laws.AppendOwn
import Derived.OwnWalk
namespace Go.Proofs.Ytkgfohodahkmmaa
open Go.RowKit
set_option linter.unusedVariables false
set_option linter.unusedSimpArgs false

theorem frozen_rowR {w w' : World} {g : Nat} {cs cs' : Array Value} {e e' : TypeId} (h : w.heap[g]? = some (.cells cs e (0, 0))) (h' : w'.heap[g]? = some (.cells cs' e' (0, 0))) (ho : ∀ k, k ≠ g → w'.heap[k]? = w.heap[k]?) (a : Addr) : w'.frozen? a = w.frozen? a := by
  by_cases hb : a.block = g
  · unfold World.frozen?
    rw [hb, h, h']
  · exact World.frozen?_of_block (ho _ hb)
/-- Samples as cells. -/
def celR (S : List Nat) : List Value := S.map fun (x : Nat) => Value.int .u32 (x : Int)
theorem celR_length (S : List Nat) : (celR S).length = S.length := by simp [celR]
theorem celR_get {S : List Nat} {i : Nat} (h : i < S.length) : (celR S)[i]? = some (.int .u32 (S.getD i 0 : Nat)) := by
  unfold celR
  rw [List.getElem?_map, List.getD_eq_getElem?_getD, List.getElem?_eq_getElem h]; rfl
/-- A sample of a list that is lent, or of the room behind it. -/
def lf (S : List Nat) (i : Nat) : Nat := if i < S.length then S.getD i 0 else (2141192202 + i) % 4294967296
def lentL (S : List Nat) : List Nat := (List.range (S.length + 5)).map (lf S)
theorem lentL_length (S : List Nat) : (lentL S).length = S.length + 5 := by simp [lentL]
theorem lentL_get {S : List Nat} {i : Nat} (h : i < S.length + 5) : (lentL S).getD i 0 = lf S i := by
  unfold lentL
  rw [List.getD_eq_getElem?_getD, List.getElem?_map, List.getElem?_range h]; rfl
theorem lentL_us {w : World} {g : Nat} {S : List Nat} (h : UIs w g 0 (lentL S)) : UIs w g 0 S := fun i hi => by
  rw [h i (by rw [lentL_length]; omega), lentL_get (by omega)]
  unfold lf
  rw [if_pos hi]
theorem make_row (n : Nat) (hn : n ≤ 35184372088832) : ∃ M : Array Value, M.size = n ∧ (∀ w : World, (Instr.makeSlice 23 (.int .i64 (n : Int)) (.int .i64 (n : Int))).run Try.prog w = .ok (.slice (some ⟨w.heap.size, 0, none⟩) n n) (w.alloc (.cells M 22))) := by
  obtain ⟨i, i1, i2, i3, i4⟩ := u32Info
  refine ⟨madeCells (Value.int .u32 0).cells (n * 1), by rw [size_madeCells]; omega, fun w => ?_⟩
  have := run_make (P := Try.prog) w 23 22 i _ Try.underlying23 i1 i4 .i64 .i64 n n (by omega) (by omega) (by rw [i3]; omega) (by omega)
  rw [i2] at this
  simp only [Int.toNat_natCast] at this
  exact this
theorem addr_add (g o j : Nat) : (⟨g, o, none⟩ : Addr).add j = ⟨g, o + j, none⟩ := by unfold Addr.add; split <;> simp_all
/-- Copying a list to the head of one that was made. -/
theorem copy_row (w : World) (n N : Nat) (hN : n ≤ N) (a : Option Addr) (cap : Nat) (S : List Nat) (hn : S.length = n) (hS : USl w (.slice a n cap) S) (M : Array Value) (hM : M.size = N) :
    ∃ w2, (Builtin.copy_ #[23, 23] 3 #[.slice (some ⟨w.heap.size, 0, none⟩) N N, .slice a n cap]).run Try.prog (w.alloc (.cells M 22)) = .ok (goInt n) w2 ∧ Fill w w2 w.heap.size N (lf S) n := by
  obtain ⟨iu, i1, i2, i3, i4⟩ := u32Info
  have hinf : (Try.prog.info? 22).map (·.size) = some 1 := by rw [i1]; simp [i2]
  have hb : (w.alloc (.cells M 22)).heap[w.heap.size]? = some (.cells M 22 (0, 0)) := heap_alloc_new w _
  have hq : Q w (w.alloc (.cells M 22)) := (Q.refl w).cells _ _
  by_cases h0 : n = 0
  · refine ⟨w.alloc (.cells M 22), ?_, hq, Nat.le_refl _, fun i hi => by omega, fun j hj => ?_, fun j => frozen_of_row _ _ _ _ _ hb⟩
    · have := run_copy_none (P := Try.prog) (w.alloc (.cells M 22)) 23 23 3 22 (some ⟨w.heap.size, 0, none⟩) a N N n cap Try.underlying23 hinf (by rw [h0]; exact Nat.zero_min _)
      rw [this, h0]; rfl
    · rw [cell_of_row _ _ j M 22 (0, 0) hb]
      exact ⟨_, Array.getElem?_eq_getElem (by omega)⟩
  · rcases hS with ⟨g, o, cap', h1, h2, h3⟩ | ⟨a', c', h1, h2⟩
    · injection h1 with h1 _ _
      subst h1
      have hcl : (celR S).length = n := by rw [celR_length, hn]
      have hrun := run_copy_row (P := Try.prog) (w.alloc (.cells M 22)) 23 23 3 22 w.heap.size 0 N N ⟨g, o, none⟩ n cap M 22 (celR S) Try.underlying23 hinf hb
        (by rw [hcl]; exact (Nat.min_eq_left hN).symm)
        (fun j v hj => by
          have hjl : j < S.length := by have := (List.getElem?_eq_some_iff.1 hj).1; rw [celR_length] at this; exact this
          rw [celR_get hjl] at hj
          injection hj with hj
          rw [← hj, addr_add]
          exact hq.cell (h3 j hjl))
        (by rw [hcl]; omega)
        (by intro v hv
            unfold celR at hv
            rw [List.mem_map] at hv
            obtain ⟨x, _, rfl⟩ := hv
            rfl)
      rw [hcl] at hrun
      refine ⟨_, hrun, ?_⟩
      have hrow := setRow_heap (w.alloc (.cells M 22)) w.heap.size M (M.toList.take 0 ++ celR S ++ M.toList.drop (0 + n)).toArray 22 (0, 0) hb
      have hfr := frozen_rowR hb hrow (fun k hk => setRow_other _ w.heap.size k _ hk)
      refine ⟨⟨below_setRow hq.1 (Nat.le_refl _) _, fun x => (hfr x).trans (hq.2 x)⟩, Nat.le_refl _, fun i hi => ?_, fun j hj => ?_, fun j => frozen_of_row _ _ _ _ _ hrow⟩
      · rw [cell_of_row _ _ _ _ 22 (0, 0) hrow]
        simp only [List.take_zero, List.nil_append]
        rw [List.getElem?_toArray, List.getElem?_append_left (by rw [hcl]; exact hi), celR_get (by omega)]
        unfold lf
        rw [if_pos (by omega)]
      · rw [cell_of_row _ _ _ _ 22 (0, 0) hrow]
        refine ⟨_, Array.getElem?_eq_getElem ?_⟩
        simp [hcl, hM]
        omega
    · injection h1 with _ h1 _
      omega
/-- What a Room holds when it has lent one list more. -/
theorem Rm.push {base : Nat} {w w' : World} {r : Nat} {sv wv : Value} {L : List Lend} (h : Rm base w r sv wv L) {g hh cap g7 cap7 g9 cap9 : Nat} {V : List Nat}
    (f : Fr w w' (fun b => b ≠ r ∧ sv.ownBlock ≠ some b ∧ wv.ownBlock ≠ some b)) (hb : base ≤ w.heap.size)
    (c0 : w'.cell? ⟨r, 0, none⟩ = some (.slice (some ⟨g7, 0, none⟩) (L.length + 1) cap7)) (c1 : w'.cell? ⟨r, 1, none⟩ = some (.slice (some ⟨g9, 0, none⟩) (L.length + 1) cap9))
    (c2 : w'.cell? ⟨r, 2, none⟩ = some (.slice none 0 0)) (c4 : w'.cell? ⟨r, 4, none⟩ = some (.slice none 0 0)) (c6 : w'.cell? ⟨r, 6, none⟩ = some (.slice none 0 0))
    (own : w'.ownsRow base 23 1 (.slice (some ⟨g7, 0, none⟩) (L.length + 1) cap7) (L.length + 1) (L.map Lend.s ++ [.slice (some ⟨g, 0, none⟩) V.length V.length]))
    (were : w'.ownsRow base 23 1 (.slice (some ⟨g9, 0, none⟩) (L.length + 1) cap9) (L.length + 1) (L.map Lend.t ++ [.slice (some ⟨hh, 0, none⟩) V.length cap]))
    (hcap : V.length ≤ cap) (ug : UIs w' g 0 V) (uh : UIs w' hh 0 V) (g1 : w.heap.size ≤ g) (g2 : g < w'.heap.size) (h1 : w.heap.size ≤ hh) (h2 : hh < w'.heap.size)
    (o7 : sv.ownBlock = some g7 ∨ w.heap.size ≤ g7 ∧ g7 ≠ g ∧ g7 ≠ hh) (o9 : wv.ownBlock = some g9 ∨ w.heap.size ≤ g9 ∧ g9 ≠ g ∧ g9 ≠ hh ∧ g9 ≠ g7) :
    Rm base w' r (.slice (some ⟨g7, 0, none⟩) (L.length + 1) cap7) (.slice (some ⟨g9, 0, none⟩) (L.length + 1) cap9) (L ++ [⟨g, hh, cap, V⟩]) := by
  have hr := cell_in h.c0
  have e7 : ∀ b, b < w.heap.size → sv.ownBlock ≠ some b → g7 ≠ b := fun b hb hne e => by
    rcases o7 with o | ⟨o, _⟩
    · exact hne (by rw [o, e])
    · omega
  have e9 : ∀ b, b < w.heap.size → wv.ownBlock ≠ some b → g9 ≠ b := fun b hb hne e => by
    rcases o9 with o | ⟨o, _⟩
    · exact hne (by rw [o, e])
    · omega
  have n7g : g7 ≠ g ∧ g7 ≠ hh := by
    rcases o7 with o | ⟨_, o⟩
    · have := (own_lt h.own o).2; omega
    · exact o
  have n9g : g9 ≠ g ∧ g9 ≠ hh := by
    rcases o9 with o | ⟨_, o, o', _⟩
    · have := (own_lt h.were o).2; omega
    · exact ⟨o, o'⟩
  have n79 : g7 ≠ g9 := by
    rcases o9 with o | ⟨_, _, _, o⟩
    · rcases o7 with p | ⟨p, _⟩
      · intro e; exact h.a3 g7 p (by rw [o, e])
      · have := (own_lt h.were o).2; omega
    · exact fun e => o e.symm
  have old : ∀ x V', Lie base w r sv wv x V' → Lie base w' r (.slice (some ⟨g7, 0, none⟩) (L.length + 1) cap7) (.slice (some ⟨g9, 0, none⟩) (L.length + 1) cap9) x V' := fun x V' hl =>
    ⟨hl.low, hl.nr, fun e => e7 x hl.lt hl.ns (by injection e), fun e => e9 x hl.lt hl.nw (by injection e), Nat.lt_of_lt_of_le hl.lt f.size, f.uis hl.us ⟨hl.nr, hl.ns, hl.nw⟩⟩
  refine ⟨c0, c1, c2, c4, c6, fun j => (f.frz _).trans (h.free j), h.low, by simpa [Lend.s] using own, by simpa [Lend.t] using were, fun e => e7 r hr h.a1 (by injection e), fun e => e9 r hr h.a2 (by injection e), fun b h1 h2 => ?_, fun x hx => ?_⟩
  · injection h1 with h1
    injection h2 with h2
    exact n79 (h1.trans h2.symm)
  · rw [List.mem_append] at hx
    rcases hx with hx | hx
    · obtain ⟨p1, p2, p3⟩ := h.it x hx
      exact ⟨p1, old _ _ p2, old _ _ p3⟩
    · rw [List.mem_singleton] at hx
      subst hx
      refine ⟨hcap, ⟨by show base ≤ g; omega, by show g ≠ r; omega, fun e => n7g.1 (by injection e), fun e => n9g.1 (by injection e), g2, ug⟩, ⟨by show base ≤ hh; omega, by show hh ≠ r; omega, fun e => n7g.2 (by injection e), fun e => n9g.2 (by injection e), h2, uh⟩⟩
theorem blk_push {n : Nat} {r : Nat} {sv wv : Value} {L : List Lend} {g hh cap g7 m7 cap7 g9 m9 cap9 : Nat} {V : List Nat} (g1 : n ≤ g) (h1 : n ≤ hh) (o7 : sv.ownBlock = some g7 ∨ n ≤ g7) (o9 : wv.ownBlock = some g9 ∨ n ≤ g9) :
    ∀ b, b < n → Blk r (.slice (some ⟨g7, 0, none⟩) m7 cap7) (.slice (some ⟨g9, 0, none⟩) m9 cap9) (L ++ [⟨g, hh, cap, V⟩]) b → Blk r sv wv L b := by
  intro b hb h
  rcases h with e | e | e | ⟨x, hx, hb'⟩
  · exact Or.inl e
  · injection e with e
    have e : g7 = b := e
    rcases o7 with o | o
    · exact Or.inr (Or.inl (by rw [o, e]))
    · omega
  · injection e with e
    have e : g9 = b := e
    rcases o9 with o | o
    · exact Or.inr (Or.inr (Or.inl (by rw [o, e])))
    · omega
  · rw [List.mem_append] at hx
    rcases hx with hx | hx
    · exact Or.inr (Or.inr (Or.inr ⟨x, hx, hb'⟩))
    · rw [List.mem_singleton] at hx
      subst hx
      have hb' : g = b ∨ hh = b := hb'
      omega
end Go.Proofs.Ytkgfohodahkmmaa
