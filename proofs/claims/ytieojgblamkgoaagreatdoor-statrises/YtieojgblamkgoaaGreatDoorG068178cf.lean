/- Planes: what they are, and how their samples lie in memory. -/
import Derived.Test.YtieojgblamkgoaaGreatDoorGedd9c870
import Derived.Laws.MakeOwn
namespace Go.Proofs.YtieojgblamkgoaaGreatDoor
open Go.RowKit
set_option linter.unusedVariables false

/-- Samples in memory. -/
def USl (w : World) (v : Value) (xs : List Nat) : Prop := (∃ g o cap, v = .slice (some ⟨g, o, none⟩) xs.length cap ∧ xs.length ≤ cap ∧ ∀ i, i < xs.length → w.cell? ⟨g, o + i, none⟩ = some (.int .u32 (xs.getD i 0 : Nat))) ∨ (∃ a c, v = .slice a 0 c ∧ xs = [])
theorem USl.next {w w' : World} {v : Value} {l : List Nat} (h : USl w v l) (q : Q w w') : USl w' v l := by
  rcases h with ⟨g, o, cap, h1, h2, h3⟩ | h
  · exact Or.inl ⟨g, o, cap, h1, h2, fun i hi => q.cell (h3 i hi)⟩
  · exact Or.inr h
theorem USl.form {w : World} {v : Value} {l : List Nat} (h : USl w v l) : ∃ a cap, v = .slice a l.length cap := by
  rcases h with ⟨g, o, cap, h1, h2, h3⟩ | ⟨a, c, h1, h2⟩
  · exact ⟨_, _, h1⟩
  · rw [h2]; exact ⟨_, _, h1⟩
/-- Samples that lie somewhere. -/
def UIs (w : World) (g o : Nat) (xs : List Nat) : Prop := ∀ i, i < xs.length → w.cell? ⟨g, o + i, none⟩ = some (.int .u32 (xs.getD i 0 : Nat))
theorem UIs.next {w w' : World} {g o : Nat} {l : List Nat} (h : UIs w g o l) (q : Q w w') : UIs w' g o l := fun i hi => q.cell (h i hi)
theorem UIs.usl {w : World} {g o : Nat} {l : List Nat} {cap : Nat} (h : UIs w g o l) (hc : l.length ≤ cap) : USl w (.slice (some ⟨g, o, none⟩) l.length cap) l := Or.inl ⟨g, o, cap, rfl, hc, h⟩
/-- A slice of samples that is not empty lies somewhere. -/
theorem USl.some {w : World} {v : Value} {l : List Nat} (h : USl w v l) (h1 : 1 ≤ l.length) : ∃ g o cap, v = .slice (some ⟨g, o, none⟩) l.length cap ∧ l.length ≤ cap ∧ UIs w g o l := by
  rcases h with ⟨g, o, cap, h1, h2, h3⟩ | ⟨a, c, h1, h2⟩
  · exact ⟨g, o, cap, h1, h2, h3⟩
  · subst h2; exact absurd h1 (by simp at *)

/-- A plane told by its places. -/
def tab (W H : Nat) (G : Nat → Nat → Nat) : List Nat := (List.range (W * H)).map fun i => G (i % W) (i / W)
theorem tab_length (W H : Nat) (G : Nat → Nat → Nat) : (tab W H G).length = W * H := by simp [tab]
theorem tab_get {W H i : Nat} {G : Nat → Nat → Nat} (h : i < W * H) : (tab W H G).getD i 0 = G (i % W) (i / W) := by
  unfold tab
  rw [List.getD_eq_getElem?_getD, List.getElem?_map, List.getElem?_range h]; rfl
theorem place_lt {W H x y : Nat} (hx : x < W) (hy : y < H) : y * W + x < W * H := by
  have : (y + 1) * W ≤ H * W := Nat.mul_le_mul_right _ hy
  rw [Nat.mul_comm W H]
  rw [Nat.succ_mul] at this
  omega
theorem place_mod {W x : Nat} (y : Nat) (hx : x < W) : (y * W + x) % W = x := by
  rw [Nat.add_comm, Nat.add_mul_mod_self_right, Nat.mod_eq_of_lt hx]
theorem place_div {W x : Nat} (y : Nat) (hx : x < W) : (y * W + x) / W = y := by
  rw [Nat.add_comm, Nat.add_mul_div_right _ _ (by omega), Nat.div_eq_of_lt hx]; omega
/-- The sample at a place. -/
def smp (S : List Nat) (W x y : Nat) : Nat := S.getD (y * W + x) 0
/-- A size that may be. -/
structure Size (a b : Nat) : Prop where
  a1 : 1 ≤ a
  a2 : a ≤ 1024
  b1 : 1 ≤ b
  b2 : b ≤ 1024
  ab : a * b ≤ 65536
theorem Size.pos {a b : Nat} (h : Size a b) : 1 ≤ a * b := Nat.mul_pos h.a1 h.b1
/-- A size that may be, of any two numbers. -/
def SizeB (W H : Int) : Prop := 1 ≤ W ∧ W ≤ 1024 ∧ 1 ≤ H ∧ H ≤ 1024 ∧ W * H ≤ 65536
theorem SizeB.nat {W H : Int} (h : SizeB W H) : ∃ a b : Nat, W = a ∧ H = b ∧ Size a b := by
  obtain ⟨h1, h2, h3, h4, h5⟩ := h
  refine ⟨W.toNat, H.toNat, by omega, by omega, by omega, by omega, by omega, by omega, ?_⟩
  have e1 : ((W.toNat : Nat) : Int) = W := by omega
  have e2 : ((H.toNat : Nat) : Int) = H := by omega
  have : ((W.toNat * H.toNat : Nat) : Int) ≤ 65536 := by rw [Int.natCast_mul, e1, e2]; exact h5
  omega
theorem Size.b {a b : Nat} (h : Size a b) : SizeB a b := by
  refine ⟨by have := h.a1; omega, by have := h.a2; omega, by have := h.b1; omega, by have := h.b2; omega, ?_⟩
  have := h.ab
  rw [← Int.natCast_mul]
  omega

/-- How far a list is written: what is done is as L tells. -/
structure Fill (w wr : World) (b n : Nat) (L : Nat → Nat) (k : Nat) : Prop where
  q : Q w wr
  new : w.heap.size ≤ b
  done : ∀ i, i < k → wr.cell? ⟨b, i, none⟩ = some (.int .u32 (L i : Nat))
  room : ∀ j, j < n → ∃ v, wr.cell? ⟨b, j, none⟩ = some v
  free : ∀ j, wr.frozen? ⟨b, j, none⟩ = false
theorem Fill.next {w wr wx : World} {b n k : Nat} {L : Nat → Nat} (h : Fill w wr b n L k) (q : Q wr wx) : Fill w wx b n L k where
  q := h.q.trans q
  new := h.new
  done := fun i hi => q.cell (h.done i hi)
  room := fun j hj => by obtain ⟨v, hv⟩ := h.room j hj; exact ⟨v, q.cell hv⟩
  free := fun j => by rw [q.2]; exact h.free j
theorem Fill.step {w wr : World} {b n k : Nat} {L : Nat → Nat} (h : Fill w wr b n L k) (hk : k < n) {v : Nat} (hv : v = L k) : Fill w (wr.setCell ⟨b, k, none⟩ (.int .u32 (v : Nat))) b n L (k + 1) := by
  subst hv
  obtain ⟨u, hu⟩ := h.room k hk
  refine ⟨h.q.set h.new _, h.new, fun i hi => ?_, fun j hj => ?_, fun j => ?_⟩
  · by_cases e : i = k
    · subst e; exact World.cell?_setCell_same _ _ _ hu
    · rw [World.cell?_setCell_other _ _ _ _ (by simp <;> omega)]; exact h.done i (by omega)
  · by_cases e : j = k
    · subst e; exact ⟨_, World.cell?_setCell_same _ _ _ hu⟩
    · rw [World.cell?_setCell_other _ _ _ _ (by simp <;> omega)]; exact h.room j hj
  · rw [World.frozen?_setCell]; exact h.free j
/-- A list in memory of its own. -/
structure Own (w wr : World) (b : Nat) (S : List Nat) : Prop where
  q : Q w wr
  new : w.heap.size ≤ b
  cells : UIs wr b 0 S
  free : ∀ j, wr.frozen? ⟨b, j, none⟩ = false
theorem Fill.own {w wr : World} {b n : Nat} {L : Nat → Nat} (h : Fill w wr b n L n) {S : List Nat} (hn : S.length = n) (hS : ∀ i, i < n → S.getD i 0 = L i) : Own w wr b S := by
  refine ⟨h.q, h.new, fun i hi => ?_, h.free⟩
  rw [hn] at hi
  rw [Nat.zero_add, h.done i hi, hS i hi]

theorem info_of {P : Program} {e : TypeId} {n b : Nat} {z : Value} (h1 : (P.info? e).map (fun i => (i.size, i.bytes)) = some (n, b)) (h2 : (P.info? e).bind (·.zero) = some z) : ∃ i, P.info? e = some i ∧ i.size = n ∧ i.bytes = b ∧ i.zero = some z := by
  cases h : P.info? e with
  | none => rw [h] at h1; cases h1
  | some i =>
    rw [h] at h1 h2
    have h1 : some (i.size, i.bytes) = some (n, b) := h1
    have h2 : i.zero = some z := h2
    injection h1 with h1
    injection h1 with h3 h4
    exact ⟨i, rfl, h3, h4, h2⟩
theorem u32Info : ∃ i, Tryz.prog.info? 43 = some i ∧ i.size = 1 ∧ i.bytes = 4 ∧ i.zero = some (.int .u32 0) :=
  info_of (by kernel_rfl) (by kernel_rfl)
/-- Making a list of noughts. -/
theorem make_u32 (n : Nat) (hn : n ≤ 1099511627776) : ∃ M : Array Value, (∀ w : World, (Instr.makeSlice 24 (.int .i64 (n : Int)) (.int .i64 (n : Int))).run Tryz.prog w = .ok (.slice (some ⟨w.heap.size, 0, none⟩) n n) (w.alloc (.cells M 43))) ∧
    ∀ w : World, Fill w (w.alloc (.cells M 43)) w.heap.size n (fun _ => 0) n := by
  obtain ⟨i, i1, i2, i3, i4⟩ := u32Info
  refine ⟨madeCells (Value.int .u32 0).cells (n * 1), fun w => ?_, fun w => ?_⟩
  · have := run_make (P := Tryz.prog) w 24 43 i _ Tryz.underlying24 i1 i4 .i64 .i64 n n (by omega) (by omega) (by rw [i3]; omega) (by omega)
    rw [i2] at this
    simp only [Int.toNat_natCast] at this
    exact this
  · have hb : (w.alloc (.cells (madeCells (Value.int .u32 0).cells (n * 1)) 43)).heap[w.heap.size]? = some (.cells (madeCells (Value.int .u32 0).cells (n * 1)) 43 (0, 0)) := heap_alloc_new w _
    have key : ∀ j, j < n → (w.alloc (.cells (madeCells (Value.int .u32 0).cells (n * 1)) 43)).cell? ⟨w.heap.size, j, none⟩ = some (.int .u32 0) := fun j hj => by
      rw [cell_of_row _ _ j _ 43 (0, 0) hb]
      unfold madeCells
      simp [Value.cells, hj, Nat.mod_one]
    exact ⟨(Q.refl w).cells _ _, Nat.le_refl _, fun i hi => key i hi, fun j hj => ⟨_, key j hj⟩, fun j => frozen_of_row _ _ _ _ _ hb⟩
end Go.Proofs.YtieojgblamkgoaaGreatDoor
