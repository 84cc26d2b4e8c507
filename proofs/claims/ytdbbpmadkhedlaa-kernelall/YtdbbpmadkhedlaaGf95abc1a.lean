/- Planes: what they are, and how their samples lie in memory. -/
import Derived.Test.YtdbbpmadkhedlaaG582a762c
import Derived.Laws.MakeOwn
import Derived.Test.YtdbbpmadkhedlaaGe3df2feb
namespace Go.Proofs.Ytdbbpmadkhedlaa
open Go.RowKit
set_option linter.unusedVariables false

/-- Samples in memory. -/
def USl (w : World) (v : Value) (xs : List Nat) : Prop := (∃ g o cap, v = .slice (some ⟨g, o, none⟩) xs.length cap ∧ xs.length ≤ cap ∧ ∀ i, i < xs.length → w.cell? ⟨g, o + i, none⟩ = some (.int .u32 (xs.getD i 0 : Nat))) ∨ (∃ a c, v = .slice a 0 c ∧ xs = [])
theorem USl.next {w w' : World} {v : Value} {l : List Nat} (h : USl w v l) (q : Q w w') : USl w' v l := by
  rcases h with ⟨g, o, cap, h1, h2, h3⟩ | h
  · exact Or.inl ⟨g, o, cap, h1, h2, fun i hi => q.cell (h3 i hi)⟩
  · exact Or.inr h
theorem USl.form {w : World} {v : Value} {l : List Nat} (h : USl w v l) : ∃ a cap, v = .slice a l.length cap := by
  rcases h with ⟨g, o, cap, h1, h2, h3⟩ | ⟨a, c, h1, h2⟩
  · exact ⟨_, _, h1⟩
  · rw [h2]; exact ⟨_, _, h1⟩
/-- Samples that lie somewhere. -/
def UIs (w : World) (g o : Nat) (xs : List Nat) : Prop := ∀ i, i < xs.length → w.cell? ⟨g, o + i, none⟩ = some (.int .u32 (xs.getD i 0 : Nat))
theorem UIs.next {w w' : World} {g o : Nat} {l : List Nat} (h : UIs w g o l) (q : Q w w') : UIs w' g o l := fun i hi => q.cell (h i hi)
theorem UIs.usl {w : World} {g o : Nat} {l : List Nat} {cap : Nat} (h : UIs w g o l) (hc : l.length ≤ cap) : USl w (.slice (some ⟨g, o, none⟩) l.length cap) l := Or.inl ⟨g, o, cap, rfl, hc, h⟩
/-- A slice of samples that is not empty lies somewhere. -/
theorem USl.some {w : World} {v : Value} {l : List Nat} (h : USl w v l) (h1 : 1 ≤ l.length) : ∃ g o cap, v = .slice (some ⟨g, o, none⟩) l.length cap ∧ l.length ≤ cap ∧ UIs w g o l := by
  rcases h with ⟨g, o, cap, h1, h2, h3⟩ | ⟨a, c, h1, h2⟩
  · exact ⟨g, o, cap, h1, h2, h3⟩
  · subst h2; exact absurd h1 (by simp at *)

/-- A plane told by its places. -/
def tab (W H : Nat) (G : Nat → Nat → Nat) : List Nat := (List.range (W * H)).map fun i => G (i % W) (i / W)
theorem tab_length (W H : Nat) (G : Nat → Nat → Nat) : (tab W H G).length = W * H := by simp [tab]
theorem tab_get {W H i : Nat} {G : Nat → Nat → Nat} (h : i < W * H) : (tab W H G).getD i 0 = G (i % W) (i / W) := by
  unfold tab
  rw [List.getD_eq_getElem?_getD, List.getElem?_map, List.getElem?_range h]; rfl
theorem place_lt {W H x y : Nat} (hx : x < W) (hy : y < H) : y * W + x < W * H := by
  have : (y + 1) * W ≤ H * W := Nat.mul_le_mul_right _ hy
  rw [Nat.mul_comm W H]
  rw [Nat.succ_mul] at this
  omega
theorem place_mod {W x : Nat} (y : Nat) (hx : x < W) : (y * W + x) % W = x := by
  rw [Nat.add_comm, Nat.add_mul_mod_self_right, Nat.mod_eq_of_lt hx]
theorem place_div {W x : Nat} (y : Nat) (hx : x < W) : (y * W + x) / W = y := by
  rw [Nat.add_comm, Nat.add_mul_div_right _ _ (by omega), Nat.div_eq_of_lt hx]; omega
theorem row_lt {W H i : Nat} (h : i < W * H) : 0 < W ∧ i % W < W ∧ i / W < H := by
  have hW : 0 < W := by
    rcases Nat.eq_zero_or_pos W with g | g
    · subst g; rw [Nat.zero_mul] at h; omega
    · exact g
  exact ⟨hW, Nat.mod_lt _ hW, (Nat.div_lt_iff_lt_mul hW).2 (by rw [Nat.mul_comm]; exact h)⟩
/-- The sample at a place. -/
def smp (S : List Nat) (W x y : Nat) : Nat := S.getD (y * W + x) 0
theorem smp_tab {W H x y : Nat} {G : Nat → Nat → Nat} (hx : x < W) (hy : y < H) : smp (tab W H G) W x y = G x y := by
  unfold smp
  rw [tab_get (place_lt hx hy), place_mod y hx, place_div y hx]
theorem tab_ext {W H : Nat} {G G' : Nat → Nat → Nat} (h : ∀ x y, x < W → y < H → G x y = G' x y) : tab W H G = tab W H G' := by
  unfold tab
  apply List.map_congr_left
  intro i hi
  rw [List.mem_range] at hi
  obtain ⟨_, h1, h2⟩ := row_lt hi
  exact h _ _ h1 h2
theorem list_ext {a b : List Nat} (hl : a.length = b.length) (h : ∀ i, i < a.length → a.getD i 0 = b.getD i 0) : a = b := by
  apply List.ext_getElem hl
  intro i h1 h2
  have := h i h1
  rw [List.getD_eq_getElem?_getD, List.getD_eq_getElem?_getD, List.getElem?_eq_getElem h1, List.getElem?_eq_getElem h2] at this
  exact this
theorem tab_self {W H : Nat} {S : List Nat} (h : S.length = W * H) : tab W H (smp S W) = S := by
  apply list_ext (by rw [tab_length, h])
  intro i hi
  rw [tab_length] at hi
  rw [tab_get hi]
  unfold smp
  rw [Nat.mul_comm, Nat.div_add_mod]
theorem getD_lt {S : List Nat} {n : Nat} (hn : 0 < n) (h : ∀ i, S.getD i 0 < n) (W x y : Nat) : smp S W x y < n := h _
theorem tab_lt {W H n : Nat} {G : Nat → Nat → Nat} (hn : 0 < n) (h : ∀ x y, G x y < n) (i : Nat) : (tab W H G).getD i 0 < n := by
  by_cases hi : i < W * H
  · rw [tab_get hi]; exact h _ _
  · rw [List.getD_eq_getElem?_getD, List.getElem?_eq_none (by rw [tab_length]; omega)]; exact hn

/-- A size that may be. -/
structure Size (a b : Nat) : Prop where
  a1 : 1 ≤ a
  a2 : a ≤ 1024
  b1 : 1 ≤ b
  b2 : b ≤ 1024
  ab : a * b ≤ 65536
theorem Size.swap {a b : Nat} (h : Size a b) : Size b a := ⟨h.b1, h.b2, h.a1, h.a2, by rw [Nat.mul_comm]; exact h.ab⟩
theorem Size.pos {a b : Nat} (h : Size a b) : 1 ≤ a * b := Nat.mul_pos h.a1 h.b1
/-- A size that may be, of any two numbers. -/
def SizeB (W H : Int) : Prop := 1 ≤ W ∧ W ≤ 1024 ∧ 1 ≤ H ∧ H ≤ 1024 ∧ W * H ≤ 65536
theorem SizeB.nat {W H : Int} (h : SizeB W H) : ∃ a b : Nat, W = a ∧ H = b ∧ Size a b := by
  obtain ⟨h1, h2, h3, h4, h5⟩ := h
  refine ⟨W.toNat, H.toNat, by omega, by omega, by omega, by omega, by omega, by omega, ?_⟩
  have e1 : ((W.toNat : Nat) : Int) = W := by omega
  have e2 : ((H.toNat : Nat) : Int) = H := by omega
  have : ((W.toNat * H.toNat : Nat) : Int) ≤ 65536 := by rw [Int.natCast_mul, e1, e2]; exact h5
  omega
theorem Size.b {a b : Nat} (h : Size a b) : SizeB a b := by
  refine ⟨by have := h.a1; omega, by have := h.a2; omega, by have := h.b1; omega, by have := h.b2; omega, ?_⟩
  have := h.ab
  rw [← Int.natCast_mul]
  omega

/-- How far a list is written: what is done is as L tells. -/
structure Fill (w wr : World) (b n : Nat) (L : Nat → Nat) (k : Nat) : Prop where
  q : Q w wr
  new : w.heap.size ≤ b
  done : ∀ i, i < k → wr.cell? ⟨b, i, none⟩ = some (.int .u32 (L i : Nat))
  room : ∀ j, j < n → ∃ v, wr.cell? ⟨b, j, none⟩ = some v
  free : ∀ j, wr.frozen? ⟨b, j, none⟩ = false
theorem Fill.next {w wr wx : World} {b n k : Nat} {L : Nat → Nat} (h : Fill w wr b n L k) (q : Q wr wx) : Fill w wx b n L k where
  q := h.q.trans q
  new := h.new
  done := fun i hi => q.cell (h.done i hi)
  room := fun j hj => by obtain ⟨v, hv⟩ := h.room j hj; exact ⟨v, q.cell hv⟩
  free := fun j => by rw [q.2]; exact h.free j
theorem Fill.step {w wr : World} {b n k : Nat} {L : Nat → Nat} (h : Fill w wr b n L k) (hk : k < n) {v : Nat} (hv : v = L k) : Fill w (wr.setCell ⟨b, k, none⟩ (.int .u32 (v : Nat))) b n L (k + 1) := by
  subst hv
  obtain ⟨u, hu⟩ := h.room k hk
  refine ⟨h.q.set h.new _, h.new, fun i hi => ?_, fun j hj => ?_, fun j => ?_⟩
  · by_cases e : i = k
    · subst e; exact World.cell?_setCell_same _ _ _ hu
    · rw [World.cell?_setCell_other _ _ _ _ (by simp <;> omega)]; exact h.done i (by omega)
  · by_cases e : j = k
    · subst e; exact ⟨_, World.cell?_setCell_same _ _ _ hu⟩
    · rw [World.cell?_setCell_other _ _ _ _ (by simp <;> omega)]; exact h.room j hj
  · rw [World.frozen?_setCell]; exact h.free j
/-- A list in memory of its own. -/
structure Own (w wr : World) (b : Nat) (S : List Nat) : Prop where
  q : Q w wr
  new : w.heap.size ≤ b
  cells : UIs wr b 0 S
  free : ∀ j, wr.frozen? ⟨b, j, none⟩ = false
theorem Own.next {w wr wx : World} {b : Nat} {S : List Nat} (h : Own w wr b S) (q : Q wr wx) : Own w wx b S := ⟨h.q.trans q, h.new, h.cells.next q, fun j => by rw [q.2]; exact h.free j⟩
theorem Fill.own {w wr : World} {b n : Nat} {L : Nat → Nat} (h : Fill w wr b n L n) {S : List Nat} (hn : S.length = n) (hS : ∀ i, i < n → S.getD i 0 = L i) : Own w wr b S := by
  refine ⟨h.q, h.new, fun i hi => ?_, h.free⟩
  rw [hn] at hi
  rw [Nat.zero_add, h.done i hi, hS i hi]

theorem info_of {P : Program} {e : TypeId} {n b : Nat} {z : Value} (h1 : (P.info? e).map (fun i => (i.size, i.bytes)) = some (n, b)) (h2 : (P.info? e).bind (·.zero) = some z) : ∃ i, P.info? e = some i ∧ i.size = n ∧ i.bytes = b ∧ i.zero = some z := by
  cases h : P.info? e with
  | none => rw [h] at h1; cases h1
  | some i =>
    rw [h] at h1 h2
    have h1 : some (i.size, i.bytes) = some (n, b) := h1
    have h2 : i.zero = some z := h2
    injection h1 with h1
    injection h1 with h3 h4
    exact ⟨i, rfl, h3, h4, h2⟩
theorem u32Info : ∃ i, Try.prog.info? 34 = some i ∧ i.size = 1 ∧ i.bytes = 4 ∧ i.zero = some (.int .u32 0) :=
  info_of (by kernel_rfl) (by kernel_rfl)
/-- Making a list of noughts. -/
theorem make_u32 (n : Nat) (hn : n ≤ 1099511627776) : ∃ M : Array Value, (∀ w : World, (Instr.makeSlice 31 (.int .i64 (n : Int)) (.int .i64 (n : Int))).run Try.prog w = .ok (.slice (some ⟨w.heap.size, 0, none⟩) n n) (w.alloc (.cells M 34))) ∧
    ∀ w : World, Fill w (w.alloc (.cells M 34)) w.heap.size n (fun _ => 0) n := by
  obtain ⟨i, i1, i2, i3, i4⟩ := u32Info
  refine ⟨madeCells (Value.int .u32 0).cells (n * 1), fun w => ?_, fun w => ?_⟩
  · have := run_make (P := Try.prog) w 31 34 i _ Try.underlying31 i1 i4 .i64 .i64 n n (by omega) (by omega) (by rw [i3]; omega) (by omega)
    rw [i2] at this
    simp only [Int.toNat_natCast] at this
    exact this
  · have hb : (w.alloc (.cells (madeCells (Value.int .u32 0).cells (n * 1)) 34)).heap[w.heap.size]? = some (.cells (madeCells (Value.int .u32 0).cells (n * 1)) 34 (0, 0)) := heap_alloc_new w _
    have key : ∀ j, j < n → (w.alloc (.cells (madeCells (Value.int .u32 0).cells (n * 1)) 34)).cell? ⟨w.heap.size, j, none⟩ = some (.int .u32 0) := fun j hj => by
      rw [cell_of_row _ _ j _ 34 (0, 0) hb]
      unfold madeCells
      simp [Value.cells, hj, Nat.mod_one]
    exact ⟨(Q.refl w).cells _ _, Nat.le_refl _, fun i hi => key i hi, fun j hj => ⟨_, key j hj⟩, fun j => frozen_of_row _ _ _ _ _ hb⟩
end Go.Proofs.Ytdbbpmadkhedlaa
/- Rows of values in memory, told by a function of the place. -/
namespace Go.Proofs.Ytdbbpmadkhedlaa
open Go.RowKit
set_option linter.unusedVariables false
set_option linter.unusedSimpArgs false

/-- A row of values that may be written. -/
structure VR (x : World) (g n : Nat) (F : Nat → Value) : Prop where
  cell : ∀ i, i < n → x.cell? ⟨g, i, none⟩ = some (F i)
  free : ∀ j, x.frozen? ⟨g, j, none⟩ = false
theorem VR.next {x x' : World} {g n : Nat} {F : Nat → Value} (h : VR x g n F) (q : Q x x') : VR x' g n F := ⟨fun i hi => q.cell (h.cell i hi), fun j => by rw [q.2]; exact h.free j⟩
theorem VR.other {x : World} {g n : Nat} {F : Nat → Value} (h : VR x g n F) {p : Addr} (hp : p.block ≠ g) (v : Value) : VR (x.setCell p v) g n F :=
  ⟨fun i hi => (World.cell?_setCell_other _ _ _ _ (fun e => hp (by rw [e]))).trans (h.cell i hi), fun j => by rw [World.frozen?_setCell]; exact h.free j⟩
theorem VR.put {x : World} {g n : Nat} {F G : Nat → Value} (h : VR x g n F) {i : Nat} (hi : i < n) {v : Value} (hv : G i = v) (ho : ∀ j, j < n → j ≠ i → G j = F j) : VR (x.setCell ⟨g, i, none⟩ v) g n G := by
  refine ⟨fun j hj => ?_, fun j => by rw [World.frozen?_setCell]; exact h.free j⟩
  by_cases e : j = i
  · subst e; rw [hv]; exact World.cell?_setCell_same _ _ _ (h.cell j hi)
  · rw [ho j hj e]
    exact (World.cell?_setCell_other _ _ _ _ (fun k => e (by injection k with _ k; exact k.symm))).trans (h.cell j hj)
theorem VR.congr {x : World} {g n : Nat} {F G : Nat → Value} (h : VR x g n F) (hG : ∀ j, j < n → G j = F j) : VR x g n G := ⟨fun i hi => by rw [hG i hi]; exact h.cell i hi, h.free⟩
theorem VR.lt {x : World} {g n : Nat} {F : Nat → Value} (h : VR x g n F) (hn : 1 ≤ n) : g < x.heap.size := World.block_lt_of_cell? _ _ (h.cell 0 hn)
/-- What lies there by now. -/
def sofar (L : Nat → Value) (z : Value) (k : Nat) (j : Nat) : Value := if j < k then L j else z
theorem sofar_zero (L : Nat → Value) (z : Value) : sofar L z 0 = fun _ => z := by funext j; unfold sofar; rw [if_neg (by omega)]
theorem sofar_step {L : Nat → Value} {z : Value} {k n : Nat} : (∀ j, j < n → j ≠ k → sofar L z (k + 1) j = sofar L z k j) ∧ sofar L z (k + 1) k = L k := by
  refine ⟨fun j hj he => ?_, by unfold sofar; rw [if_pos (by omega)]⟩
  unfold sofar
  by_cases h : j < k
  · rw [if_pos h, if_pos (by omega)]
  · rw [if_neg h, if_neg (by omega)]
theorem sofar_all {L : Nat → Value} {z : Value} {n j : Nat} (h : j < n) : sofar L z n j = L j := by unfold sofar; rw [if_pos h]
theorem VR.fill {x : World} {g n k : Nat} {L : Nat → Value} {z v : Value} (h : VR x g n (sofar L z k)) (hk : k < n) (hv : v = L k) : VR (x.setCell ⟨g, k, none⟩ v) g n (sofar L z (k + 1)) :=
  h.put hk (by rw [hv]; exact (sofar_step (n := n)).2) (sofar_step (n := n)).1
theorem VR.full {x : World} {g n : Nat} {L : Nat → Value} {z : Value} (h : VR x g n (sofar L z n)) : VR x g n L := h.congr fun j hj => (sofar_all hj).symm
theorem made_vr {z : Value} (hz : z.cells = #[z]) (e : TypeId) (n : Nat) (w : World) : VR (w.alloc (.cells (madeCells z.cells (n * 1)) e)) w.heap.size n (fun _ => z) := by
  have hb : (w.alloc (.cells (madeCells z.cells (n * 1)) e)).heap[w.heap.size]? = some (.cells (madeCells z.cells (n * 1)) e (0, 0)) := heap_alloc_new w _
  refine ⟨fun j hj => ?_, fun j => frozen_of_row _ _ _ _ _ hb⟩
  rw [cell_of_row _ _ j _ e (0, 0) hb]
  unfold madeCells
  rw [hz]
  simp [hj, Nat.mod_one]
theorem intInfoV : ∃ i, Try.prog.info? 3 = some i ∧ i.size = 1 ∧ i.bytes = 8 ∧ i.zero = some (.int .i64 0) := info_of (by kernel_rfl) (by kernel_rfl)
theorem fltInfoV : ∃ i, Try.prog.info? 100 = some i ∧ i.size = 1 ∧ i.bytes = 8 ∧ i.zero = some (.float .f64 0) := info_of (by kernel_rfl) (by kernel_rfl)
theorem u32InfoV : ∃ i, Try.prog.info? 34 = some i ∧ i.size = 1 ∧ i.bytes = 4 ∧ i.zero = some (.int .u32 0) := info_of (by kernel_rfl) (by kernel_rfl)
theorem make_vi (n : Nat) (hn : n ≤ 1048576) : ∃ M : Array Value, (∀ w : World, (Instr.makeSlice 51 (.int .i64 (n : Int)) (.int .i64 (n : Int))).run Try.prog w = .ok (.slice (some ⟨w.heap.size, 0, none⟩) n n) (w.alloc (.cells M 3))) ∧
    ∀ w : World, VR (w.alloc (.cells M 3)) w.heap.size n (fun _ => .int .i64 0) := by
  obtain ⟨i, i1, i2, i3, i4⟩ := intInfoV
  refine ⟨madeCells (Value.int .i64 0).cells (n * 1), fun w => ?_, fun w => made_vr rfl _ n w⟩
  have := run_make (P := Try.prog) w 51 3 i _ Try.underlying51 i1 i4 .i64 .i64 n n (by omega) (by omega) (by rw [i3]; omega) (by omega)
  rw [i2] at this
  simp only [Int.toNat_natCast] at this
  exact this
theorem make_vu (n : Nat) (hn : n ≤ 1048576) : ∃ M : Array Value, (∀ w : World, (Instr.makeSlice 31 (.int .i64 (n : Int)) (.int .i64 (n : Int))).run Try.prog w = .ok (.slice (some ⟨w.heap.size, 0, none⟩) n n) (w.alloc (.cells M 34))) ∧
    ∀ w : World, VR (w.alloc (.cells M 34)) w.heap.size n (fun _ => .int .u32 0) := by
  obtain ⟨i, i1, i2, i3, i4⟩ := u32InfoV
  refine ⟨madeCells (Value.int .u32 0).cells (n * 1), fun w => ?_, fun w => made_vr rfl _ n w⟩
  have := run_make (P := Try.prog) w 31 34 i _ Try.underlying31 i1 i4 .i64 .i64 n n (by omega) (by omega) (by rw [i3]; omega) (by omega)
  rw [i2] at this
  simp only [Int.toNat_natCast] at this
  exact this
end Go.Proofs.Ytdbbpmadkhedlaa
/- Worlds in which what was there is as it was. (QbW with Q for Below: where nothing is frozen anew; never import both.) -/
namespace Go.Proofs.Ytdbbpmadkhedlaa
open Go.RowKit
set_option linter.unusedVariables false
set_option linter.unusedSimpArgs false

/-- What was there is as it was; what is new is not frozen. -/
def Qb (w w' : World) : Prop := Q w w'
theorem Qb.refl (w : World) : Qb w w := Q.refl w
theorem Q.qb {w w' : World} (h : Q w w') : Qb w w' := h
theorem Qb.q {w w' : World} (h : Qb w w') : Q w w' := h
theorem Qb.trans {a b c : World} (h : Qb a b) (k : Qb b c) : Qb a c := Q.trans h k
theorem Qb.cell {a b : World} (h : Qb a b) {p : Addr} {v : Value} (hc : a.cell? p = some v) : b.cell? p = some v := Q.cell h hc
theorem Qb.frozen {a b : World} (h : Qb a b) {p : Addr} (hp : p.block < a.heap.size) : b.frozen? p = a.frozen? p := h.2 p
theorem Qb.sz {a b : World} (h : Qb a b) : a.heap.size ≤ b.heap.size := h.1.size
theorem Qb.set {a b : World} (h : Qb a b) {p : Addr} (hp : a.heap.size ≤ p.block) (v : Value) : Qb a (b.setCell p v) := Q.set h hp v
theorem Qb.drew {a b : World} (h : Qb a b) : Qb a b.drew := Q.drew h
theorem UIs.nextB {w w' : World} {g o : Nat} {l : List Nat} (h : UIs w g o l) (q : Qb w w') : UIs w' g o l := fun i hi => q.cell (h i hi)
theorem USl.nextB {w w' : World} {v : Value} {l : List Nat} (h : USl w v l) (q : Qb w w') : USl w' v l := by
  rcases h with ⟨g, o, cap, h1, h2, h3⟩ | h
  · exact Or.inl ⟨g, o, cap, h1, h2, fun i hi => q.cell (h3 i hi)⟩
  · exact Or.inr h
theorem VR.nextB {x x' : World} {g n : Nat} {F : Nat → Value} (h : VR x g n F) (hg : g < x.heap.size) (q : Qb x x') : VR x' g n F :=
  ⟨fun i hi => q.cell (h.cell i hi), fun j => by rw [q.frozen (by exact hg)]; exact h.free j⟩

theorem setcell_id {w : World} {b o : Nat} {v : Value} (h : w.cell? ⟨b, o, none⟩ = some v) : w.setCell ⟨b, o, none⟩ v = w := by
  have hh : w.heap.modify b (fun | .cells c e f => .cells (c.setIfInBounds o v) e f | x => x) = w.heap := by
    apply Array.ext_getElem?
    intro i
    rw [Array.getElem?_modify]
    by_cases hi : b = i
    · subst hi
      rw [if_pos rfl]
      unfold World.cell? at h
      cases hb : w.heap[b]? with
      | none => rfl
      | some ob =>
        rw [hb] at h
        cases ob with
        | cells c e f =>
          simp at h
          simp only [Option.map_some]
          congr 2
          apply Array.ext_getElem?
          intro k
          rw [Array.getElem?_setIfInBounds]
          split
          · rename_i hk; subst hk
            rw [h]
            split
            · rfl
            · rename_i hx; rw [Array.getElem?_eq_none (by omega)] at h; cases h
          · rfl
        | _ => rfl
    · rw [if_neg hi]
  refine Eq.trans ?_ (congrArg (fun z => ({ w with heap := z } : World)) hh)
  unfold World.setCell
  simp
  congr 1
  all_goals (funext ob; cases ob <;> rfl)
end Go.Proofs.Ytdbbpmadkhedlaa
/- A range over a function, its body writing fixed blocks and never leaving: what is between two rounds hangs on what was given. -/
namespace Go.Proofs.Ytdbbpmadkhedlaa
open Go.RowKit Go.Shelf
set_option linter.unusedVariables false
set_option linter.unusedSimpArgs false

theorem Qb.put {a b : World} (h : Qb a b) {E : Nat} (hE : a.heap.size ≤ E) (o : Obj) (ho : o.isCells = false := by rfl) : Qb a (b.putObj E o) := by
  have h' : Below a.heap.size a b := h.1
  refine ⟨⟨h'.os, h'.tape, h'.output, by rw [World.putObj_size]; exact h'.size, fun c hc => (World.putObj_heap_other (by omega)).trans (h'.block c hc)⟩, fun p => ?_⟩
  rw [← h.2 p]
  by_cases e : p.block = E
  · have h1 : b.frozen? p = false := by
      rw [h.2 p]
      unfold World.frozen?
      rw [Array.getElem?_eq_none (by omega)]
    rw [h1]
    unfold World.frozen?
    rw [e]
    by_cases hl : E < b.heap.size
    · rw [World.putObj_heap_same hl]
      cases o <;> simp_all [Obj.isCells]
    · rw [Array.getElem?_eq_none (by rw [World.putObj_size]; omega)]
  · unfold World.frozen?
    rw [World.putObj_heap_other e]
theorem put_cell {b : World} {E : Nat} {o : Obj} {g j : Nat} (h : g ≠ E) : (b.putObj E o).cell? ⟨g, j, none⟩ = b.cell? ⟨g, j, none⟩ := by
  unfold World.cell?
  rw [World.putObj_heap_other (by exact h)]
theorem put_frozen {b : World} {E : Nat} {o : Obj} {g j : Nat} (h : g ≠ E) : (b.putObj E o).frozen? ⟨g, j, none⟩ = b.frozen? ⟨g, j, none⟩ := by
  unfold World.frozen?
  rw [World.putObj_heap_other (by exact h)]
theorem VR.putO {b : World} {E g n : Nat} {F : Nat → Value} (h : VR b g n F) (hg : g ≠ E) (o : Obj) : VR (b.putObj E o) g n F := ⟨fun i hi => (put_cell hg).trans (h.cell i hi), fun j => (put_frozen hg).trans (h.free j)⟩
/-- A round's end. -/
def RoundFx (D : Nat → Prop) (In : World → Prop) (W : World) (e : Exit) (a : Act) (W' : World) : Prop := e = .normal ∧ Same D W W' ∧ In W'
set_option maxHeartbeats 1000000 in
theorem range_fix {P : Program} {α : Type} {g : Operand} {ps : Array Tmp} {assign body : Code} {R : Exit → Act → World → Prop} {a : Act} {w : World}
    {gf : Nat} {lb : Array Value} (hg : a.eval g = .func (.func gf) #[] lb) (eg : ∀ args w, (callFunc gf args).run P w = .ok (.enter gf args) w)
    {Enc : α → Array Value → (Nat → Prop) → World → Prop} {xs : List α} {Rd : Nat → Prop} {Pre : World → Prop} (hit : ItC P gf lb Enc xs Rd Pre)
    (hPre : ∀ W, KeptIn (fun b => b < w.heap.size) w W → Pre W) (hRd : ∀ b, Rd b → b < w.heap.size)
    (hps : ∀ x args B W, Enc x args B W → args.size = ps.size)
    (In : List α → World → Prop) (D : Nat → Prop) (hD : ∀ b, D b → b < w.heap.size) (hDR : ∀ b, Rd b → ¬ D b)
    (hst : ∀ pre W W', In pre W → KeptIn (fun b => b < w.heap.size) W W' → In pre W') (h0 : In [] w)
    (hround : ∀ (l : Nat) (pre : List α) (x : α) (rest : List α) (W : World) (args : Array Value) (B : Nat → Prop), w.heap.size ≤ l → l < W.heap.size → xs = pre ++ x :: rest → In pre W → w.heap.size ≤ W.heap.size → Enc x args B W →
      assign.wpIn (Fence.wide.inRound l) 0 P (Exit.then (fun a₁ W₁ => Q W W₁ ∧ ∀ W₂, KeptIn (fun b => b ≠ l) W₁ W₂ → (∀ a, a.block < W₁.heap.size → W₂.frozen? a = W₁.frozen? a) → body.wpIn (Fence.wide.inRound l) 0 P (RoundFx D (In (pre ++ [x])) W₂) a₁ W₂) (fun _ _ _ => False))
        { tmps := (ps.zip args).foldl (fun t (p, v) => t.setIfInBounds p v) a.tmps, defers := [] } W)
    (hdone : ∀ (E : Nat) (W : World), w.heap.size ≤ E → W.heap[E]? = some (.deferred (some [])) → Same D w W → In xs W → R .normal { a with defers := { target := .collected E, args := #[] } :: a.defers } W) :
    (Code.rangeFunc g ps assign body).wpIn Fence.wide 0 P R a w := by
  refine range_it hg eg hit hPre hRd hps (fun C' D' pre W => C' = (fun b => b < w.heap.size) ∧ D' = D ∧ In pre W ∧ w.heap.size ≤ W.heap.size) (fun _ _ _ _ _ => False) ?_ ?_ (fun b => b < w.heap.size) D (fun b hb => hb) hD hDR ⟨rfl, rfl, h0, Nat.le_refl _⟩ ?_ ?_ ?_
  · rintro C' D' pre W W' ⟨rfl, rfl, h, hs⟩ hk
    exact ⟨rfl, rfl, hst _ _ _ h hk, Nat.le_trans hs hk.size⟩
  · intro c C' D' pre W W' h _
    exact h
  · rintro l C' D' pre x rest W args B hl hlt hnC hnB hx ⟨rfl, rfl, hi, hs⟩ hf hdc henc hB hfine
    refine wpIn_mono (hround l pre x rest W args B hl hlt hx hi hs henc) ?_
    rintro e a1 W1 hp
    cases e with
    | normal =>
      obtain ⟨hq, hp⟩ := hp
      refine ⟨hq, fun W2 hs2 hk2 => wpIn_mono (hp W2 hk2 (fun a _ => hs2.frozen a)) ?_⟩
      rintro e a3 W3 ⟨rfl, h1, h2⟩
      have hsz : w.heap.size ≤ W3.heap.size := Nat.le_trans hs (Nat.le_trans hq.1.size (Nat.le_trans hk2.size h1.size))
      exact ⟨_, _, fun b hb => Nat.lt_of_lt_of_le hb hsz, hD, h1, fun b hb => Or.inl hb, fun b hb => Or.inl hb, rfl, rfl, h2, hsz⟩
    | exit id => exact hp.elim
    | goto t => exact hp.elim
    | ret => exact hp.elim
    | panic ch => exact hp.elim
    | outgrown => exact hp.elim
  · rintro E C' D' W hE _ hd _ _ hS _ _ ⟨_, _, hi, _⟩
    exact hdone E W hE hd hS hi
  · intro E c C' D' pre W _ _ _ _ _ _ _ _ _ h
    exact h.elim
end Go.Proofs.Ytdbbpmadkhedlaa
/- What is kept behind a range over a function (out of PyI). -/
namespace Go.Proofs.Ytdbbpmadkhedlaa
open Go.RowKit Go.Shelf
set_option linter.unusedVariables false
set_option linter.unusedSimpArgs false

theorem KeptIn.one {C : Nat → Prop} {x y : World} (h : KeptIn C x y) {b j : Nat} (hb : C b) {v : Value} (hv : x.cell? ⟨b, j, none⟩ = some v) : y.cell? ⟨b, j, none⟩ = some v := (h.cell (a := ⟨b, j, none⟩) hb).trans hv
theorem VR.kept {C : Nat → Prop} {x y : World} {g n : Nat} {F : Nat → Value} (h : VR x g n F) (k : KeptIn C x y) (hg : C g) : VR y g n F := ⟨fun i hi => k.one hg (h.cell i hi), fun j => by
  have := h.free j
  unfold World.frozen? at this ⊢
  rw [k.block _ hg]
  exact this⟩
theorem same_setP (W : World) (g j : Nat) (v : Value) {D : Nat → Prop} (hD : D g) : Same D W (W.setCell ⟨g, j, none⟩ v) :=
  ⟨rfl, rfl, rfl, by simp, fun b _ hn => Below.heap_setCell _ _ _ _ (fun e => hn (e ▸ hD)), fun a => by rw [World.frozen?_setCell]⟩
theorem keptP_set (W : World) (g j : Nat) (v : Value) {C : Nat → Prop} (hC : ¬ C g) : KeptIn C W (W.setCell ⟨g, j, none⟩ v) :=
  ⟨by simp, fun b hb => Below.heap_setCell _ _ _ _ (fun e => hC (by have e : b = g := e; rw [← e]; exact hb))⟩
theorem KeptIn.reflP (C : Nat → Prop) (W : World) : KeptIn C W W := ⟨Nat.le_refl _, fun _ _ => rfl⟩
theorem KeptIn.of_qP {C : Nat → Prop} {W W' : World} (q : Q W W') (hC : ∀ b, C b → b < W.heap.size) : KeptIn C W W' := ⟨q.1.size, fun b hb => q.1.block b (hC b hb)⟩
theorem Qb.trans' {a b c : World} {D : Nat → Prop} (h : Qb a b) (k : Same D b c) (hD : ∀ x, D x → a.heap.size ≤ x) : Qb a c := by
  have h' : Below a.heap.size a b := h.1
  exact ⟨⟨k.os.trans h'.os, k.tape.trans h'.tape, k.output.trans h'.output, Nat.le_trans h'.size k.size, fun x hx => (k.block x (Nat.lt_of_lt_of_le hx h'.size) (fun e => by have := hD x e; omega)).trans (h'.block x hx)⟩, fun p => (k.frozen p).trans (h.2 p)⟩
theorem range_at {n : Nat} {pre rest : List Nat} {x : Nat} (h : List.range n = pre ++ x :: rest) : pre.length = x ∧ x < n := by
  have h1 : (List.range n)[pre.length]? = some x := by rw [h]; simp
  have hl : pre.length < n := by
    have := (List.getElem?_eq_some_iff.1 h1).1
    simpa using this
  rw [List.getElem?_range hl] at h1
  injection h1 with h1
  omega
end Go.Proofs.Ytdbbpmadkhedlaa
