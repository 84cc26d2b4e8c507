/- Planes: what they are, and how their samples lie in memory. -/
import Derived.Test.YtkgojnjlfkijiaaGreatGa5861977
import Derived.Laws.MakeOwn
import Derived.Test.YtkgojnjlfkijiaaGreatG08e67703
import Derived.Test.YtkgojnjlfkijiaaGreatGa76e5349
namespace Go.Proofs.YtkgojnjlfkijiaaGreat
open Go.RowKit
set_option linter.unusedVariables false

/-- Samples in memory. -/
def USl (w : World) (v : Value) (xs : List Nat) : Prop := (∃ g o cap, v = .slice (some ⟨g, o, none⟩) xs.length cap ∧ xs.length ≤ cap ∧ ∀ i, i < xs.length → w.cell? ⟨g, o + i, none⟩ = some (.int .u32 (xs.getD i 0 : Nat))) ∨ (∃ a c, v = .slice a 0 c ∧ xs = [])
theorem USl.next {w w' : World} {v : Value} {l : List Nat} (h : USl w v l) (q : Q w w') : USl w' v l := by
  rcases h with ⟨g, o, cap, h1, h2, h3⟩ | h
  · exact Or.inl ⟨g, o, cap, h1, h2, fun i hi => q.cell (h3 i hi)⟩
  · exact Or.inr h
theorem USl.form {w : World} {v : Value} {l : List Nat} (h : USl w v l) : ∃ a cap, v = .slice a l.length cap := by
  rcases h with ⟨g, o, cap, h1, h2, h3⟩ | ⟨a, c, h1, h2⟩
  · exact ⟨_, _, h1⟩
  · rw [h2]; exact ⟨_, _, h1⟩
/-- Samples that lie somewhere. -/
def UIs (w : World) (g o : Nat) (xs : List Nat) : Prop := ∀ i, i < xs.length → w.cell? ⟨g, o + i, none⟩ = some (.int .u32 (xs.getD i 0 : Nat))
theorem UIs.next {w w' : World} {g o : Nat} {l : List Nat} (h : UIs w g o l) (q : Q w w') : UIs w' g o l := fun i hi => q.cell (h i hi)
theorem UIs.usl {w : World} {g o : Nat} {l : List Nat} {cap : Nat} (h : UIs w g o l) (hc : l.length ≤ cap) : USl w (.slice (some ⟨g, o, none⟩) l.length cap) l := Or.inl ⟨g, o, cap, rfl, hc, h⟩
/-- A slice of samples that is not empty lies somewhere. -/
theorem USl.some {w : World} {v : Value} {l : List Nat} (h : USl w v l) (h1 : 1 ≤ l.length) : ∃ g o cap, v = .slice (some ⟨g, o, none⟩) l.length cap ∧ l.length ≤ cap ∧ UIs w g o l := by
  rcases h with ⟨g, o, cap, h1, h2, h3⟩ | ⟨a, c, h1, h2⟩
  · exact ⟨g, o, cap, h1, h2, h3⟩
  · subst h2; exact absurd h1 (by simp at *)

/-- A plane told by its places. -/
def tab (W H : Nat) (G : Nat → Nat → Nat) : List Nat := (List.range (W * H)).map fun i => G (i % W) (i / W)
theorem tab_length (W H : Nat) (G : Nat → Nat → Nat) : (tab W H G).length = W * H := by simp [tab]
theorem tab_get {W H i : Nat} {G : Nat → Nat → Nat} (h : i < W * H) : (tab W H G).getD i 0 = G (i % W) (i / W) := by
  unfold tab
  rw [List.getD_eq_getElem?_getD, List.getElem?_map, List.getElem?_range h]; rfl
theorem place_lt {W H x y : Nat} (hx : x < W) (hy : y < H) : y * W + x < W * H := by
  have : (y + 1) * W ≤ H * W := Nat.mul_le_mul_right _ hy
  rw [Nat.mul_comm W H]
  rw [Nat.succ_mul] at this
  omega
theorem place_mod {W x : Nat} (y : Nat) (hx : x < W) : (y * W + x) % W = x := by
  rw [Nat.add_comm, Nat.add_mul_mod_self_right, Nat.mod_eq_of_lt hx]
theorem place_div {W x : Nat} (y : Nat) (hx : x < W) : (y * W + x) / W = y := by
  rw [Nat.add_comm, Nat.add_mul_div_right _ _ (by omega), Nat.div_eq_of_lt hx]; omega
theorem row_lt {W H i : Nat} (h : i < W * H) : 0 < W ∧ i % W < W ∧ i / W < H := by
  have hW : 0 < W := by
    rcases Nat.eq_zero_or_pos W with g | g
    · subst g; rw [Nat.zero_mul] at h; omega
    · exact g
  exact ⟨hW, Nat.mod_lt _ hW, (Nat.div_lt_iff_lt_mul hW).2 (by rw [Nat.mul_comm]; exact h)⟩
/-- The sample at a place. -/
def smp (S : List Nat) (W x y : Nat) : Nat := S.getD (y * W + x) 0
theorem smp_tab {W H x y : Nat} {G : Nat → Nat → Nat} (hx : x < W) (hy : y < H) : smp (tab W H G) W x y = G x y := by
  unfold smp
  rw [tab_get (place_lt hx hy), place_mod y hx, place_div y hx]
theorem tab_ext {W H : Nat} {G G' : Nat → Nat → Nat} (h : ∀ x y, x < W → y < H → G x y = G' x y) : tab W H G = tab W H G' := by
  unfold tab
  apply List.map_congr_left
  intro i hi
  rw [List.mem_range] at hi
  obtain ⟨_, h1, h2⟩ := row_lt hi
  exact h _ _ h1 h2
theorem list_ext {a b : List Nat} (hl : a.length = b.length) (h : ∀ i, i < a.length → a.getD i 0 = b.getD i 0) : a = b := by
  apply List.ext_getElem hl
  intro i h1 h2
  have := h i h1
  rw [List.getD_eq_getElem?_getD, List.getD_eq_getElem?_getD, List.getElem?_eq_getElem h1, List.getElem?_eq_getElem h2] at this
  exact this
theorem tab_self {W H : Nat} {S : List Nat} (h : S.length = W * H) : tab W H (smp S W) = S := by
  apply list_ext (by rw [tab_length, h])
  intro i hi
  rw [tab_length] at hi
  rw [tab_get hi]
  unfold smp
  rw [Nat.mul_comm, Nat.div_add_mod]
theorem getD_lt {S : List Nat} {n : Nat} (hn : 0 < n) (h : ∀ i, S.getD i 0 < n) (W x y : Nat) : smp S W x y < n := h _
theorem tab_lt {W H n : Nat} {G : Nat → Nat → Nat} (hn : 0 < n) (h : ∀ x y, G x y < n) (i : Nat) : (tab W H G).getD i 0 < n := by
  by_cases hi : i < W * H
  · rw [tab_get hi]; exact h _ _
  · rw [List.getD_eq_getElem?_getD, List.getElem?_eq_none (by rw [tab_length]; omega)]; exact hn

/-- A size that may be. -/
structure Size (a b : Nat) : Prop where
  a1 : 1 ≤ a
  a2 : a ≤ 1024
  b1 : 1 ≤ b
  b2 : b ≤ 1024
  ab : a * b ≤ 65536
theorem Size.swap {a b : Nat} (h : Size a b) : Size b a := ⟨h.b1, h.b2, h.a1, h.a2, by rw [Nat.mul_comm]; exact h.ab⟩
theorem Size.pos {a b : Nat} (h : Size a b) : 1 ≤ a * b := Nat.mul_pos h.a1 h.b1
/-- A size that may be, of any two numbers. -/
def SizeB (W H : Int) : Prop := 1 ≤ W ∧ W ≤ 1024 ∧ 1 ≤ H ∧ H ≤ 1024 ∧ W * H ≤ 65536
theorem SizeB.nat {W H : Int} (h : SizeB W H) : ∃ a b : Nat, W = a ∧ H = b ∧ Size a b := by
  obtain ⟨h1, h2, h3, h4, h5⟩ := h
  refine ⟨W.toNat, H.toNat, by omega, by omega, by omega, by omega, by omega, by omega, ?_⟩
  have e1 : ((W.toNat : Nat) : Int) = W := by omega
  have e2 : ((H.toNat : Nat) : Int) = H := by omega
  have : ((W.toNat * H.toNat : Nat) : Int) ≤ 65536 := by rw [Int.natCast_mul, e1, e2]; exact h5
  omega
theorem Size.b {a b : Nat} (h : Size a b) : SizeB a b := by
  refine ⟨by have := h.a1; omega, by have := h.a2; omega, by have := h.b1; omega, by have := h.b2; omega, ?_⟩
  have := h.ab
  rw [← Int.natCast_mul]
  omega

/-- How far a list is written: what is done is as L tells. -/
structure Fill (w wr : World) (b n : Nat) (L : Nat → Nat) (k : Nat) : Prop where
  q : Q w wr
  new : w.heap.size ≤ b
  done : ∀ i, i < k → wr.cell? ⟨b, i, none⟩ = some (.int .u32 (L i : Nat))
  room : ∀ j, j < n → ∃ v, wr.cell? ⟨b, j, none⟩ = some v
  free : ∀ j, wr.frozen? ⟨b, j, none⟩ = false
theorem Fill.next {w wr wx : World} {b n k : Nat} {L : Nat → Nat} (h : Fill w wr b n L k) (q : Q wr wx) : Fill w wx b n L k where
  q := h.q.trans q
  new := h.new
  done := fun i hi => q.cell (h.done i hi)
  room := fun j hj => by obtain ⟨v, hv⟩ := h.room j hj; exact ⟨v, q.cell hv⟩
  free := fun j => by rw [q.2]; exact h.free j
theorem Fill.step {w wr : World} {b n k : Nat} {L : Nat → Nat} (h : Fill w wr b n L k) (hk : k < n) {v : Nat} (hv : v = L k) : Fill w (wr.setCell ⟨b, k, none⟩ (.int .u32 (v : Nat))) b n L (k + 1) := by
  subst hv
  obtain ⟨u, hu⟩ := h.room k hk
  refine ⟨h.q.set h.new _, h.new, fun i hi => ?_, fun j hj => ?_, fun j => ?_⟩
  · by_cases e : i = k
    · subst e; exact World.cell?_setCell_same _ _ _ hu
    · rw [World.cell?_setCell_other _ _ _ _ (by simp <;> omega)]; exact h.done i (by omega)
  · by_cases e : j = k
    · subst e; exact ⟨_, World.cell?_setCell_same _ _ _ hu⟩
    · rw [World.cell?_setCell_other _ _ _ _ (by simp <;> omega)]; exact h.room j hj
  · rw [World.frozen?_setCell]; exact h.free j
/-- A list in memory of its own. -/
structure Own (w wr : World) (b : Nat) (S : List Nat) : Prop where
  q : Q w wr
  new : w.heap.size ≤ b
  cells : UIs wr b 0 S
  free : ∀ j, wr.frozen? ⟨b, j, none⟩ = false
theorem Own.next {w wr wx : World} {b : Nat} {S : List Nat} (h : Own w wr b S) (q : Q wr wx) : Own w wx b S := ⟨h.q.trans q, h.new, h.cells.next q, fun j => by rw [q.2]; exact h.free j⟩
theorem Fill.own {w wr : World} {b n : Nat} {L : Nat → Nat} (h : Fill w wr b n L n) {S : List Nat} (hn : S.length = n) (hS : ∀ i, i < n → S.getD i 0 = L i) : Own w wr b S := by
  refine ⟨h.q, h.new, fun i hi => ?_, h.free⟩
  rw [hn] at hi
  rw [Nat.zero_add, h.done i hi, hS i hi]

theorem info_of {P : Program} {e : TypeId} {n b : Nat} {z : Value} (h1 : (P.info? e).map (fun i => (i.size, i.bytes)) = some (n, b)) (h2 : (P.info? e).bind (·.zero) = some z) : ∃ i, P.info? e = some i ∧ i.size = n ∧ i.bytes = b ∧ i.zero = some z := by
  cases h : P.info? e with
  | none => rw [h] at h1; cases h1
  | some i =>
    rw [h] at h1 h2
    have h1 : some (i.size, i.bytes) = some (n, b) := h1
    have h2 : i.zero = some z := h2
    injection h1 with h1
    injection h1 with h3 h4
    exact ⟨i, rfl, h3, h4, h2⟩
theorem u32Info : ∃ i, Tryz.prog.info? 22 = some i ∧ i.size = 1 ∧ i.bytes = 4 ∧ i.zero = some (.int .u32 0) :=
  info_of (by kernel_rfl) (by kernel_rfl)
/-- Making a list of noughts. -/
theorem make_u32 (n : Nat) (hn : n ≤ 1099511627776) : ∃ M : Array Value, (∀ w : World, (Instr.makeSlice 50 (.int .i64 (n : Int)) (.int .i64 (n : Int))).run Tryz.prog w = .ok (.slice (some ⟨w.heap.size, 0, none⟩) n n) (w.alloc (.cells M 22))) ∧
    ∀ w : World, Fill w (w.alloc (.cells M 22)) w.heap.size n (fun _ => 0) n := by
  obtain ⟨i, i1, i2, i3, i4⟩ := u32Info
  refine ⟨madeCells (Value.int .u32 0).cells (n * 1), fun w => ?_, fun w => ?_⟩
  · have := run_make (P := Tryz.prog) w 50 22 i _ Tryz.underlying50 i1 i4 .i64 .i64 n n (by omega) (by omega) (by rw [i3]; omega) (by omega)
    rw [i2] at this
    simp only [Int.toNat_natCast] at this
    exact this
  · have hb : (w.alloc (.cells (madeCells (Value.int .u32 0).cells (n * 1)) 22)).heap[w.heap.size]? = some (.cells (madeCells (Value.int .u32 0).cells (n * 1)) 22 (0, 0)) := heap_alloc_new w _
    have key : ∀ j, j < n → (w.alloc (.cells (madeCells (Value.int .u32 0).cells (n * 1)) 22)).cell? ⟨w.heap.size, j, none⟩ = some (.int .u32 0) := fun j hj => by
      rw [cell_of_row _ _ j _ 22 (0, 0) hb]
      unfold madeCells
      simp [Value.cells, hj, Nat.mod_one]
    exact ⟨(Q.refl w).cells _ _, Nat.le_refl _, fun i hi => key i hi, fun j hj => ⟨_, key j hj⟩, fun j => frozen_of_row _ _ _ _ _ hb⟩
end Go.Proofs.YtkgojnjlfkijiaaGreat
/- What stays while something is written; rows of the call's own; appending in regions. -/
namespace Go.Proofs.YtkgojnjlfkijiaaGreat
open Go.RowKit
set_option linter.unusedVariables false
set_option linter.unusedSimpArgs false

/-- The blocks of R stay. -/
structure Fr (w w' : World) (R : Nat → Prop) : Prop where
  os : w'.os = w.os
  tape : w'.tape = w.tape
  output : w'.output = w.output
  size : w.heap.size ≤ w'.heap.size
  block : ∀ b, b < w.heap.size → R b → w'.heap[b]? = w.heap[b]?
  frz : ∀ a, w'.frozen? a = w.frozen? a
theorem Fr.refl (w : World) (R : Nat → Prop) : Fr w w R := ⟨rfl, rfl, rfl, Nat.le_refl _, fun _ _ _ => rfl, fun _ => rfl⟩
theorem Q.fr {w w' : World} (q : Q w w') (R : Nat → Prop) : Fr w w' R := ⟨q.1.os, q.1.tape, q.1.output, q.1.size, fun b hb _ => q.1.block b hb, q.2⟩
theorem Fr.q {w0 w w' : World} {R : Nat → Prop} (f : Fr w w' R) (q : Q w0 w) (hR : ∀ b, b < w0.heap.size → R b) : Q w0 w' :=
  ⟨⟨f.os.trans q.1.os, f.tape.trans q.1.tape, f.output.trans q.1.output, Nat.le_trans q.1.size f.size, fun b hb => (f.block b (Nat.lt_of_lt_of_le hb q.1.size) (hR b hb)).trans (q.1.block b hb)⟩, fun a => (f.frz a).trans (q.2 a)⟩
theorem Fr.trans {a b c : World} {R : Nat → Prop} (f : Fr a b R) (g : Fr b c R) : Fr a c R :=
  ⟨g.os.trans f.os, g.tape.trans f.tape, g.output.trans f.output, Nat.le_trans f.size g.size, fun x hx hr => (g.block x (Nat.lt_of_lt_of_le hx f.size) hr).trans (f.block x hx hr), fun x => (g.frz x).trans (f.frz x)⟩
theorem Fr.mono {a b : World} {R R' : Nat → Prop} (f : Fr a b R) (h : ∀ x, R' x → x < a.heap.size → R x) : Fr a b R' :=
  ⟨f.os, f.tape, f.output, f.size, fun x hx hr => f.block x hx (h x hr hx), f.frz⟩
theorem Fr.cell {a b : World} {R : Nat → Prop} (f : Fr a b R) {p : Addr} {v : Value} (h : a.cell? p = some v) (hr : R p.block) : b.cell? p = some v :=
  (World.cell?_of_block (f.block p.block (World.block_lt_of_cell? _ _ h) hr)).trans h
theorem Fr.uis {a b : World} {R : Nat → Prop} (f : Fr a b R) {g o : Nat} {S : List Nat} (h : UIs a g o S) (hr : R g) : UIs b g o S := fun i hi => f.cell (h i hi) hr
theorem Fr.set {a b : World} {R : Nat → Prop} (f : Fr a b R) {p : Addr} (hp : ¬ R p.block) (v : Value) : Fr a (b.setCell p v) R :=
  ⟨f.os, f.tape, f.output, by simpa [World.setCell] using f.size, fun x hx hr => (Below.heap_setCell _ _ _ _ (fun e => hp (by rw [← e]; exact hr))).trans (f.block x hx hr), fun x => (World.frozen?_setCell _ _ _ _).trans (f.frz x)⟩
theorem cell_in {w : World} {b i : Nat} {v : Value} (h : w.cell? ⟨b, i, none⟩ = some v) : b < w.heap.size := World.block_lt_of_cell? w _ h
theorem own_lt {w : World} {base : Nat} {e : TypeId} {size n : Nat} {v : Value} {xs : List Value} (h : w.ownsRow base e size v n xs) {b : Nat} (hb : v.ownBlock = some b) : base ≤ b ∧ b < w.heap.size := World.ownsRow.lt h b hb
theorem Fr.row {a b : World} {R : Nat → Prop} (f : Fr a b R) {base : Nat} {e : TypeId} {size n : Nat} {v : Value} {xs : List Value} (h : a.ownsRow base e size v n xs) (hr : ∀ x, v.ownBlock = some x → R x) : b.ownsRow base e size v n xs := by
  refine ⟨h.1, ?_⟩
  rcases h.2 with c | ⟨g, cap, cur, h1, h2, h3, h4⟩
  · exact Or.inl c
  · have hg : g < a.heap.size := by
      rcases Nat.lt_or_ge g a.heap.size with hlt | hge
      · exact hlt
      · rw [Array.getElem?_eq_none hge] at h3; cases h3
    exact Or.inr ⟨g, cap, cur, h1, h2, (f.block g hg (hr g (by rw [h1]; rfl))).trans h3, h4⟩
/-- Behind an append. -/
theorem Fr.app {w0 a b : World} {R : Nat → Prop} {row : Option Nat} (q : Q w0 a) (q' : Q w0 b) (hg : a.grownBy b row) (hr : ∀ x, row = some x → ¬ R x) : Fr a b R :=
  ⟨hg.os, hg.tape, hg.output, hg.size, fun x hx hR => hg.block x hx (fun e => hr x e.symm hR), fun x => (q'.2 x).trans (q.2 x).symm⟩

/-- The same in a region that draws its order. -/
theorem step_app_qg {P : Program} (w w0 : World) (q0 : Q w0 w) {ops : Array Oper} {o : Oper} {a : Act} {K : Act → World → Prop} {R : Exit → Act → World → Prop} {E : Prop} (hgd : o.guard = none) (s x : Operand) (t : TypeId)
    (ho : o.op = .call { callee := .builtin .append, args := #[s, x], argTypes := #[t, t] })
    (e : TypeId) (i : TypeInfo) (z : Value) (size bytes : Nat) (ht : P.underlying t = some (.slice e)) (hi : P.info? e = some i) (hz : i.zero = some z)
    (hsize : i.size = size) (hby : i.bytes = bytes) (hzs : z.cells.size = size) (hsz : 0 < size)
    (v : Value) (n : Nat) (xs : List Value) (hs : a.eval s = v) (hown : w.ownsRow w0.heap.size e size v n xs)
    (ad : Addr) (m c : Nat) (news : List Value) (hx : a.eval x = .slice (some ad) m c) (hl : news.length = m * size) (hnews : ∀ j u, news[j]? = some u → w.cell? (ad.add j) = some u) (h1 : ∀ u ∈ news, u.oneCell' = true)
    (hm : 0 < m) (h63 : n + m ≤ maxLen) (hbytes : (n + m) * bytes ≤ 140737488355328)
    (h : ∀ g cap w', w'.ownsRow w0.heap.size e size (.slice (some ⟨g, 0, none⟩) (n + m) cap) (n + m) (xs ++ news) → Q w0 w' → w.grownBy w' v.ownBlock → (v.ownBlock = some g ∨ g = w.heap.size) → K (a.put o.dst (.slice (some ⟨g, 0, none⟩) (n + m) cap)) w') :
    if Region.wanted o (yielded ops a.tmps) = true then Oper.wp P o a w K R else E := by
  have hw : Region.wanted o (yielded ops a.tmps) = true := by simp [Region.wanted, hgd]
  rw [if_pos hw]
  obtain ⟨g, cap, w', hr, h2, h3, h4, h5⟩ := run_app_qg (P := P) w w0 q0 t o.type e i z size bytes ht hi hz hsize hby hzs hsz v n xs hown ad m c news hl hnews h1 hm h63 hbytes
  unfold Oper.wp execOp
  simp only [ho, resolve, invoke, builtin, Sem.run_bind, Sem.run_pure, Result.andThen_ok, List.map_toArray, List.map_cons, List.map_nil, hs, hx, hr]
  exact h g cap w' h2 h3 h4 h5
/-- Appending to nothing, in a region that draws its order. -/
theorem step_app_new {P : Program} (w : World) {ops : Array Oper} {o : Oper} {a : Act} {K : Act → World → Prop} {R : Exit → Act → World → Prop} {E : Prop} (hgd : o.guard = none) (s x : Operand) (t : TypeId)
    (ho : o.op = .call { callee := .builtin .append, args := #[s, x], argTypes := #[t, t] })
    (e : TypeId) (i : TypeInfo) (z : Value) (ht : P.underlying t = some (.slice e)) (hi : P.info? e = some i) (hz : i.zero = some z)
    (v : Value) (hv : v = .slice none 0 0 ∨ ∃ b, v = .slice (some b) 0 0) (hs : a.eval s = v) (ad : Addr) (m c : Nat) (news : List Value) (hx : a.eval x = .slice (some ad) m c) (hl : news.length = m * i.size) (hnews : ∀ j u, news[j]? = some u → w.cell? (ad.add j) = some u)
    (h0 : 0 < m) (h63 : m ≤ 1125899906842624) (hby : m * i.bytes ≤ 140737488355328)
    (h : ∀ cap w', Q w w' → m ≤ cap → w'.heap.size = w.heap.size + 1 → (∀ j u, news[j]? = some u → w'.cell? ⟨w.heap.size, j, none⟩ = some u) → (∀ j, w'.frozen? ⟨w.heap.size, j, none⟩ = false) → K (a.put o.dst (.slice (some ⟨w.heap.size, 0, none⟩) m cap)) w') :
    if Region.wanted o (yielded ops a.tmps) = true then Oper.wp P o a w K R else E := by
  have hw : Region.wanted o (yielded ops a.tmps) = true := by simp [Region.wanted, hgd]
  rw [if_pos hw]
  obtain ⟨cap, w', hr, h1, h2, h3, h4, h5⟩ := run_app_new (P := P) w t o.type e i z ht hi hz v hv ad m c news hl hnews h0 h63 hby
  unfold Oper.wp execOp
  simp only [ho, resolve, invoke, builtin, Sem.run_bind, Sem.run_pure, Result.andThen_ok, List.map_toArray, List.map_cons, List.map_nil, hs, hx, hr]
  exact h cap w' h1 h2 h3 h4 h5
end Go.Proofs.YtkgojnjlfkijiaaGreat
