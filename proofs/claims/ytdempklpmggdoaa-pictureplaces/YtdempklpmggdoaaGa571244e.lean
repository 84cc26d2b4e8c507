/- Planes: what they are, and how their samples lie in memory. -/
import Derived.Test.YtdempklpmggdoaaG7ae59892
import Derived.Laws.MakeOwn
import Derived.Test.YtdempklpmggdoaaG58d90faf
import Derived.Test.YtdempklpmggdoaaGf0a65996
namespace Go.Proofs.Ytdempklpmggdoaa
open Go.RowKit
set_option linter.unusedVariables false

/-- Samples in memory. -/
def USl (w : World) (v : Value) (xs : List Nat) : Prop := (∃ g o cap, v = .slice (some ⟨g, o, none⟩) xs.length cap ∧ xs.length ≤ cap ∧ ∀ i, i < xs.length → w.cell? ⟨g, o + i, none⟩ = some (.int .u32 (xs.getD i 0 : Nat))) ∨ (∃ a c, v = .slice a 0 c ∧ xs = [])
theorem USl.next {w w' : World} {v : Value} {l : List Nat} (h : USl w v l) (q : Q w w') : USl w' v l := by
  rcases h with ⟨g, o, cap, h1, h2, h3⟩ | h
  · exact Or.inl ⟨g, o, cap, h1, h2, fun i hi => q.cell (h3 i hi)⟩
  · exact Or.inr h
theorem USl.form {w : World} {v : Value} {l : List Nat} (h : USl w v l) : ∃ a cap, v = .slice a l.length cap := by
  rcases h with ⟨g, o, cap, h1, h2, h3⟩ | ⟨a, c, h1, h2⟩
  · exact ⟨_, _, h1⟩
  · rw [h2]; exact ⟨_, _, h1⟩
/-- Samples that lie somewhere. -/
def UIs (w : World) (g o : Nat) (xs : List Nat) : Prop := ∀ i, i < xs.length → w.cell? ⟨g, o + i, none⟩ = some (.int .u32 (xs.getD i 0 : Nat))
theorem UIs.next {w w' : World} {g o : Nat} {l : List Nat} (h : UIs w g o l) (q : Q w w') : UIs w' g o l := fun i hi => q.cell (h i hi)
theorem UIs.usl {w : World} {g o : Nat} {l : List Nat} {cap : Nat} (h : UIs w g o l) (hc : l.length ≤ cap) : USl w (.slice (some ⟨g, o, none⟩) l.length cap) l := Or.inl ⟨g, o, cap, rfl, hc, h⟩
/-- A slice of samples that is not empty lies somewhere. -/
theorem USl.some {w : World} {v : Value} {l : List Nat} (h : USl w v l) (h1 : 1 ≤ l.length) : ∃ g o cap, v = .slice (some ⟨g, o, none⟩) l.length cap ∧ l.length ≤ cap ∧ UIs w g o l := by
  rcases h with ⟨g, o, cap, h1, h2, h3⟩ | ⟨a, c, h1, h2⟩
  · exact ⟨g, o, cap, h1, h2, h3⟩
  · subst h2; exact absurd h1 (by simp at *)

/-- A plane told by its places. -/
def tab (W H : Nat) (G : Nat → Nat → Nat) : List Nat := (List.range (W * H)).map fun i => G (i % W) (i / W)
theorem tab_length (W H : Nat) (G : Nat → Nat → Nat) : (tab W H G).length = W * H := by simp [tab]
theorem tab_get {W H i : Nat} {G : Nat → Nat → Nat} (h : i < W * H) : (tab W H G).getD i 0 = G (i % W) (i / W) := by
  unfold tab
  rw [List.getD_eq_getElem?_getD, List.getElem?_map, List.getElem?_range h]; rfl
theorem place_lt {W H x y : Nat} (hx : x < W) (hy : y < H) : y * W + x < W * H := by
  have : (y + 1) * W ≤ H * W := Nat.mul_le_mul_right _ hy
  rw [Nat.mul_comm W H]
  rw [Nat.succ_mul] at this
  omega
theorem place_mod {W x : Nat} (y : Nat) (hx : x < W) : (y * W + x) % W = x := by
  rw [Nat.add_comm, Nat.add_mul_mod_self_right, Nat.mod_eq_of_lt hx]
theorem place_div {W x : Nat} (y : Nat) (hx : x < W) : (y * W + x) / W = y := by
  rw [Nat.add_comm, Nat.add_mul_div_right _ _ (by omega), Nat.div_eq_of_lt hx]; omega
theorem row_lt {W H i : Nat} (h : i < W * H) : 0 < W ∧ i % W < W ∧ i / W < H := by
  have hW : 0 < W := by
    rcases Nat.eq_zero_or_pos W with g | g
    · subst g; rw [Nat.zero_mul] at h; omega
    · exact g
  exact ⟨hW, Nat.mod_lt _ hW, (Nat.div_lt_iff_lt_mul hW).2 (by rw [Nat.mul_comm]; exact h)⟩
/-- The sample at a place. -/
def smp (S : List Nat) (W x y : Nat) : Nat := S.getD (y * W + x) 0
theorem smp_tab {W H x y : Nat} {G : Nat → Nat → Nat} (hx : x < W) (hy : y < H) : smp (tab W H G) W x y = G x y := by
  unfold smp
  rw [tab_get (place_lt hx hy), place_mod y hx, place_div y hx]
theorem tab_ext {W H : Nat} {G G' : Nat → Nat → Nat} (h : ∀ x y, x < W → y < H → G x y = G' x y) : tab W H G = tab W H G' := by
  unfold tab
  apply List.map_congr_left
  intro i hi
  rw [List.mem_range] at hi
  obtain ⟨_, h1, h2⟩ := row_lt hi
  exact h _ _ h1 h2
theorem list_ext {a b : List Nat} (hl : a.length = b.length) (h : ∀ i, i < a.length → a.getD i 0 = b.getD i 0) : a = b := by
  apply List.ext_getElem hl
  intro i h1 h2
  have := h i h1
  rw [List.getD_eq_getElem?_getD, List.getD_eq_getElem?_getD, List.getElem?_eq_getElem h1, List.getElem?_eq_getElem h2] at this
  exact this
theorem tab_self {W H : Nat} {S : List Nat} (h : S.length = W * H) : tab W H (smp S W) = S := by
  apply list_ext (by rw [tab_length, h])
  intro i hi
  rw [tab_length] at hi
  rw [tab_get hi]
  unfold smp
  rw [Nat.mul_comm, Nat.div_add_mod]
theorem getD_lt {S : List Nat} {n : Nat} (hn : 0 < n) (h : ∀ i, S.getD i 0 < n) (W x y : Nat) : smp S W x y < n := h _
theorem tab_lt {W H n : Nat} {G : Nat → Nat → Nat} (hn : 0 < n) (h : ∀ x y, G x y < n) (i : Nat) : (tab W H G).getD i 0 < n := by
  by_cases hi : i < W * H
  · rw [tab_get hi]; exact h _ _
  · rw [List.getD_eq_getElem?_getD, List.getElem?_eq_none (by rw [tab_length]; omega)]; exact hn

/-- A size that may be. -/
structure Size (a b : Nat) : Prop where
  a1 : 1 ≤ a
  a2 : a ≤ 1024
  b1 : 1 ≤ b
  b2 : b ≤ 1024
  ab : a * b ≤ 65536
theorem Size.swap {a b : Nat} (h : Size a b) : Size b a := ⟨h.b1, h.b2, h.a1, h.a2, by rw [Nat.mul_comm]; exact h.ab⟩
theorem Size.pos {a b : Nat} (h : Size a b) : 1 ≤ a * b := Nat.mul_pos h.a1 h.b1
/-- A size that may be, of any two numbers. -/
def SizeB (W H : Int) : Prop := 1 ≤ W ∧ W ≤ 1024 ∧ 1 ≤ H ∧ H ≤ 1024 ∧ W * H ≤ 65536
theorem SizeB.nat {W H : Int} (h : SizeB W H) : ∃ a b : Nat, W = a ∧ H = b ∧ Size a b := by
  obtain ⟨h1, h2, h3, h4, h5⟩ := h
  refine ⟨W.toNat, H.toNat, by omega, by omega, by omega, by omega, by omega, by omega, ?_⟩
  have e1 : ((W.toNat : Nat) : Int) = W := by omega
  have e2 : ((H.toNat : Nat) : Int) = H := by omega
  have : ((W.toNat * H.toNat : Nat) : Int) ≤ 65536 := by rw [Int.natCast_mul, e1, e2]; exact h5
  omega
theorem Size.b {a b : Nat} (h : Size a b) : SizeB a b := by
  refine ⟨by have := h.a1; omega, by have := h.a2; omega, by have := h.b1; omega, by have := h.b2; omega, ?_⟩
  have := h.ab
  rw [← Int.natCast_mul]
  omega

/-- How far a list is written: what is done is as L tells. -/
structure Fill (w wr : World) (b n : Nat) (L : Nat → Nat) (k : Nat) : Prop where
  q : Q w wr
  new : w.heap.size ≤ b
  done : ∀ i, i < k → wr.cell? ⟨b, i, none⟩ = some (.int .u32 (L i : Nat))
  room : ∀ j, j < n → ∃ v, wr.cell? ⟨b, j, none⟩ = some v
  free : ∀ j, wr.frozen? ⟨b, j, none⟩ = false
theorem Fill.next {w wr wx : World} {b n k : Nat} {L : Nat → Nat} (h : Fill w wr b n L k) (q : Q wr wx) : Fill w wx b n L k where
  q := h.q.trans q
  new := h.new
  done := fun i hi => q.cell (h.done i hi)
  room := fun j hj => by obtain ⟨v, hv⟩ := h.room j hj; exact ⟨v, q.cell hv⟩
  free := fun j => by rw [q.2]; exact h.free j
theorem Fill.step {w wr : World} {b n k : Nat} {L : Nat → Nat} (h : Fill w wr b n L k) (hk : k < n) {v : Nat} (hv : v = L k) : Fill w (wr.setCell ⟨b, k, none⟩ (.int .u32 (v : Nat))) b n L (k + 1) := by
  subst hv
  obtain ⟨u, hu⟩ := h.room k hk
  refine ⟨h.q.set h.new _, h.new, fun i hi => ?_, fun j hj => ?_, fun j => ?_⟩
  · by_cases e : i = k
    · subst e; exact World.cell?_setCell_same _ _ _ hu
    · rw [World.cell?_setCell_other _ _ _ _ (by simp <;> omega)]; exact h.done i (by omega)
  · by_cases e : j = k
    · subst e; exact ⟨_, World.cell?_setCell_same _ _ _ hu⟩
    · rw [World.cell?_setCell_other _ _ _ _ (by simp <;> omega)]; exact h.room j hj
  · rw [World.frozen?_setCell]; exact h.free j
/-- A list in memory of its own. -/
structure Own (w wr : World) (b : Nat) (S : List Nat) : Prop where
  q : Q w wr
  new : w.heap.size ≤ b
  cells : UIs wr b 0 S
  free : ∀ j, wr.frozen? ⟨b, j, none⟩ = false
theorem Own.next {w wr wx : World} {b : Nat} {S : List Nat} (h : Own w wr b S) (q : Q wr wx) : Own w wx b S := ⟨h.q.trans q, h.new, h.cells.next q, fun j => by rw [q.2]; exact h.free j⟩
theorem Fill.own {w wr : World} {b n : Nat} {L : Nat → Nat} (h : Fill w wr b n L n) {S : List Nat} (hn : S.length = n) (hS : ∀ i, i < n → S.getD i 0 = L i) : Own w wr b S := by
  refine ⟨h.q, h.new, fun i hi => ?_, h.free⟩
  rw [hn] at hi
  rw [Nat.zero_add, h.done i hi, hS i hi]

theorem info_of {P : Program} {e : TypeId} {n b : Nat} {z : Value} (h1 : (P.info? e).map (fun i => (i.size, i.bytes)) = some (n, b)) (h2 : (P.info? e).bind (·.zero) = some z) : ∃ i, P.info? e = some i ∧ i.size = n ∧ i.bytes = b ∧ i.zero = some z := by
  cases h : P.info? e with
  | none => rw [h] at h1; cases h1
  | some i =>
    rw [h] at h1 h2
    have h1 : some (i.size, i.bytes) = some (n, b) := h1
    have h2 : i.zero = some z := h2
    injection h1 with h1
    injection h1 with h3 h4
    exact ⟨i, rfl, h3, h4, h2⟩
theorem u32Info : ∃ i, Try.prog.info? 27 = some i ∧ i.size = 1 ∧ i.bytes = 4 ∧ i.zero = some (.int .u32 0) :=
  info_of (by kernel_rfl) (by kernel_rfl)
/-- Making a list of noughts. -/
theorem make_u32 (n : Nat) (hn : n ≤ 1099511627776) : ∃ M : Array Value, (∀ w : World, (Instr.makeSlice 45 (.int .i64 (n : Int)) (.int .i64 (n : Int))).run Try.prog w = .ok (.slice (some ⟨w.heap.size, 0, none⟩) n n) (w.alloc (.cells M 27))) ∧
    ∀ w : World, Fill w (w.alloc (.cells M 27)) w.heap.size n (fun _ => 0) n := by
  obtain ⟨i, i1, i2, i3, i4⟩ := u32Info
  refine ⟨madeCells (Value.int .u32 0).cells (n * 1), fun w => ?_, fun w => ?_⟩
  · have := run_make (P := Try.prog) w 45 27 i _ Try.underlying45 i1 i4 .i64 .i64 n n (by omega) (by omega) (by rw [i3]; omega) (by omega)
    rw [i2] at this
    simp only [Int.toNat_natCast] at this
    exact this
  · have hb : (w.alloc (.cells (madeCells (Value.int .u32 0).cells (n * 1)) 27)).heap[w.heap.size]? = some (.cells (madeCells (Value.int .u32 0).cells (n * 1)) 27 (0, 0)) := heap_alloc_new w _
    have key : ∀ j, j < n → (w.alloc (.cells (madeCells (Value.int .u32 0).cells (n * 1)) 27)).cell? ⟨w.heap.size, j, none⟩ = some (.int .u32 0) := fun j hj => by
      rw [cell_of_row _ _ j _ 27 (0, 0) hb]
      unfold madeCells
      simp [Value.cells, hj, Nat.mod_one]
    exact ⟨(Q.refl w).cells _ _, Nat.le_refl _, fun i hi => key i hi, fun j hj => ⟨_, key j hj⟩, fun j => frozen_of_row _ _ _ _ _ hb⟩
end Go.Proofs.Ytdempklpmggdoaa
/- What stays while something is written; rows of the call's own; appending in regions. -/
namespace Go.Proofs.Ytdempklpmggdoaa
open Go.RowKit
set_option linter.unusedVariables false
set_option linter.unusedSimpArgs false

/-- The blocks of R stay. -/
structure Fr (w w' : World) (R : Nat → Prop) : Prop where
  os : w'.os = w.os
  tape : w'.tape = w.tape
  output : w'.output = w.output
  size : w.heap.size ≤ w'.heap.size
  block : ∀ b, b < w.heap.size → R b → w'.heap[b]? = w.heap[b]?
  frz : ∀ a, w'.frozen? a = w.frozen? a
theorem Fr.refl (w : World) (R : Nat → Prop) : Fr w w R := ⟨rfl, rfl, rfl, Nat.le_refl _, fun _ _ _ => rfl, fun _ => rfl⟩
theorem Q.fr {w w' : World} (q : Q w w') (R : Nat → Prop) : Fr w w' R := ⟨q.1.os, q.1.tape, q.1.output, q.1.size, fun b hb _ => q.1.block b hb, q.2⟩
theorem Fr.q {w0 w w' : World} {R : Nat → Prop} (f : Fr w w' R) (q : Q w0 w) (hR : ∀ b, b < w0.heap.size → R b) : Q w0 w' :=
  ⟨⟨f.os.trans q.1.os, f.tape.trans q.1.tape, f.output.trans q.1.output, Nat.le_trans q.1.size f.size, fun b hb => (f.block b (Nat.lt_of_lt_of_le hb q.1.size) (hR b hb)).trans (q.1.block b hb)⟩, fun a => (f.frz a).trans (q.2 a)⟩
theorem Fr.trans {a b c : World} {R : Nat → Prop} (f : Fr a b R) (g : Fr b c R) : Fr a c R :=
  ⟨g.os.trans f.os, g.tape.trans f.tape, g.output.trans f.output, Nat.le_trans f.size g.size, fun x hx hr => (g.block x (Nat.lt_of_lt_of_le hx f.size) hr).trans (f.block x hx hr), fun x => (g.frz x).trans (f.frz x)⟩
theorem Fr.mono {a b : World} {R R' : Nat → Prop} (f : Fr a b R) (h : ∀ x, R' x → x < a.heap.size → R x) : Fr a b R' :=
  ⟨f.os, f.tape, f.output, f.size, fun x hx hr => f.block x hx (h x hr hx), f.frz⟩
theorem Fr.cell {a b : World} {R : Nat → Prop} (f : Fr a b R) {p : Addr} {v : Value} (h : a.cell? p = some v) (hr : R p.block) : b.cell? p = some v :=
  (World.cell?_of_block (f.block p.block (World.block_lt_of_cell? _ _ h) hr)).trans h
theorem Fr.uis {a b : World} {R : Nat → Prop} (f : Fr a b R) {g o : Nat} {S : List Nat} (h : UIs a g o S) (hr : R g) : UIs b g o S := fun i hi => f.cell (h i hi) hr
theorem Fr.set {a b : World} {R : Nat → Prop} (f : Fr a b R) {p : Addr} (hp : ¬ R p.block) (v : Value) : Fr a (b.setCell p v) R :=
  ⟨f.os, f.tape, f.output, by simpa [World.setCell] using f.size, fun x hx hr => (Below.heap_setCell _ _ _ _ (fun e => hp (by rw [← e]; exact hr))).trans (f.block x hx hr), fun x => (World.frozen?_setCell _ _ _ _).trans (f.frz x)⟩
theorem cell_in {w : World} {b i : Nat} {v : Value} (h : w.cell? ⟨b, i, none⟩ = some v) : b < w.heap.size := World.block_lt_of_cell? w _ h
theorem own_lt {w : World} {base : Nat} {e : TypeId} {size n : Nat} {v : Value} {xs : List Value} (h : w.ownsRow base e size v n xs) {b : Nat} (hb : v.ownBlock = some b) : base ≤ b ∧ b < w.heap.size := World.ownsRow.lt h b hb
theorem Fr.row {a b : World} {R : Nat → Prop} (f : Fr a b R) {base : Nat} {e : TypeId} {size n : Nat} {v : Value} {xs : List Value} (h : a.ownsRow base e size v n xs) (hr : ∀ x, v.ownBlock = some x → R x) : b.ownsRow base e size v n xs := by
  refine ⟨h.1, ?_⟩
  rcases h.2 with c | ⟨g, cap, cur, h1, h2, h3, h4⟩
  · exact Or.inl c
  · have hg : g < a.heap.size := by
      rcases Nat.lt_or_ge g a.heap.size with hlt | hge
      · exact hlt
      · rw [Array.getElem?_eq_none hge] at h3; cases h3
    exact Or.inr ⟨g, cap, cur, h1, h2, (f.block g hg (hr g (by rw [h1]; rfl))).trans h3, h4⟩
/-- Behind an append. -/
theorem Fr.app {w0 a b : World} {R : Nat → Prop} {row : Option Nat} (q : Q w0 a) (q' : Q w0 b) (hg : a.grownBy b row) (hr : ∀ x, row = some x → ¬ R x) : Fr a b R :=
  ⟨hg.os, hg.tape, hg.output, hg.size, fun x hx hR => hg.block x hx (fun e => hr x e.symm hR), fun x => (q'.2 x).trans (q.2 x).symm⟩

/-- The same in a region that draws its order. -/
theorem step_app_qg {P : Program} (w w0 : World) (q0 : Q w0 w) {ops : Array Oper} {o : Oper} {a : Act} {K : Act → World → Prop} {R : Exit → Act → World → Prop} {E : Prop} (hgd : o.guard = none) (s x : Operand) (t : TypeId)
    (ho : o.op = .call { callee := .builtin .append, args := #[s, x], argTypes := #[t, t] })
    (e : TypeId) (i : TypeInfo) (z : Value) (size bytes : Nat) (ht : P.underlying t = some (.slice e)) (hi : P.info? e = some i) (hz : i.zero = some z)
    (hsize : i.size = size) (hby : i.bytes = bytes) (hzs : z.cells.size = size) (hsz : 0 < size)
    (v : Value) (n : Nat) (xs : List Value) (hs : a.eval s = v) (hown : w.ownsRow w0.heap.size e size v n xs)
    (ad : Addr) (m c : Nat) (news : List Value) (hx : a.eval x = .slice (some ad) m c) (hl : news.length = m * size) (hnews : ∀ j u, news[j]? = some u → w.cell? (ad.add j) = some u) (h1 : ∀ u ∈ news, u.oneCell' = true)
    (hm : 0 < m) (h63 : n + m ≤ maxLen) (hbytes : (n + m) * bytes ≤ 140737488355328)
    (h : ∀ g cap w', w'.ownsRow w0.heap.size e size (.slice (some ⟨g, 0, none⟩) (n + m) cap) (n + m) (xs ++ news) → Q w0 w' → w.grownBy w' v.ownBlock → (v.ownBlock = some g ∨ g = w.heap.size) → K (a.put o.dst (.slice (some ⟨g, 0, none⟩) (n + m) cap)) w') :
    if Region.wanted o (yielded ops a.tmps) = true then Oper.wp P o a w K R else E := by
  have hw : Region.wanted o (yielded ops a.tmps) = true := by simp [Region.wanted, hgd]
  rw [if_pos hw]
  obtain ⟨g, cap, w', hr, h2, h3, h4, h5⟩ := run_app_qg (P := P) w w0 q0 t o.type e i z size bytes ht hi hz hsize hby hzs hsz v n xs hown ad m c news hl hnews h1 hm h63 hbytes
  unfold Oper.wp execOp
  simp only [ho, resolve, invoke, builtin, Sem.run_bind, Sem.run_pure, Result.andThen_ok, List.map_toArray, List.map_cons, List.map_nil, hs, hx, hr]
  exact h g cap w' h2 h3 h4 h5
/-- Appending to nothing, in a region that draws its order. -/
theorem step_app_new {P : Program} (w : World) {ops : Array Oper} {o : Oper} {a : Act} {K : Act → World → Prop} {R : Exit → Act → World → Prop} {E : Prop} (hgd : o.guard = none) (s x : Operand) (t : TypeId)
    (ho : o.op = .call { callee := .builtin .append, args := #[s, x], argTypes := #[t, t] })
    (e : TypeId) (i : TypeInfo) (z : Value) (ht : P.underlying t = some (.slice e)) (hi : P.info? e = some i) (hz : i.zero = some z)
    (v : Value) (hv : v = .slice none 0 0 ∨ ∃ b, v = .slice (some b) 0 0) (hs : a.eval s = v) (ad : Addr) (m c : Nat) (news : List Value) (hx : a.eval x = .slice (some ad) m c) (hl : news.length = m * i.size) (hnews : ∀ j u, news[j]? = some u → w.cell? (ad.add j) = some u)
    (h0 : 0 < m) (h63 : m ≤ 1125899906842624) (hby : m * i.bytes ≤ 140737488355328)
    (h : ∀ cap w', Q w w' → m ≤ cap → w'.heap.size = w.heap.size + 1 → (∀ j u, news[j]? = some u → w'.cell? ⟨w.heap.size, j, none⟩ = some u) → (∀ j, w'.frozen? ⟨w.heap.size, j, none⟩ = false) → K (a.put o.dst (.slice (some ⟨w.heap.size, 0, none⟩) m cap)) w') :
    if Region.wanted o (yielded ops a.tmps) = true then Oper.wp P o a w K R else E := by
  have hw : Region.wanted o (yielded ops a.tmps) = true := by simp [Region.wanted, hgd]
  rw [if_pos hw]
  obtain ⟨cap, w', hr, h1, h2, h3, h4, h5⟩ := run_app_new (P := P) w t o.type e i z ht hi hz v hv ad m c news hl hnews h0 h63 hby
  unfold Oper.wp execOp
  simp only [ho, resolve, invoke, builtin, Sem.run_bind, Sem.run_pure, Result.andThen_ok, List.map_toArray, List.map_cons, List.map_nil, hs, hx, hr]
  exact h cap w' h1 h2 h3 h4 h5
end Go.Proofs.Ytdempklpmggdoaa
/- Pictures: planes in a row, in memory. -/
namespace Go.Proofs.Ytdempklpmggdoaa
open Go.RowKit
set_option linter.unusedVariables false
set_option linter.unusedSimpArgs false

theorem planeInfo : ∃ i, Try.prog.info? 47 = some i ∧ i.size = 3 ∧ i.bytes = 40 ∧ i.zero = some (.agg #[.int .i64 0, .int .i64 0, .slice none 0 0]) :=
  info_of (by kernel_rfl) (by kernel_rfl)
/-- Where a plane's samples lie, and which they are. -/
structure PL where
  g : Nat
  o : Nat
  cap : Nat
  S : List Nat
def PL.v (x : PL) : Value := .slice (some ⟨x.g, x.o, none⟩) x.S.length x.cap
/-- A plane as a value; a picture. -/
def plV (a b : Nat) (x : PL) : Value := .agg #[.int .i64 (a : Int), .int .i64 (b : Int), x.v]
def plL (a b : Nat) (x : PL) : List Value := [.int .i64 (a : Int), .int .i64 (b : Int), x.v]
def newsP (a b : Nat) (L : List PL) : List Value := L.flatMap (plL a b)
theorem newsP_cons (a b : Nat) (x : PL) (L : List PL) : newsP a b (x :: L) = plL a b x ++ newsP a b L := List.flatMap_cons ..
theorem newsP_append (a b : Nat) (L M : List PL) : newsP a b (L ++ M) = newsP a b L ++ newsP a b M := List.flatMap_append ..
theorem newsP_one (a b : Nat) (x : PL) : newsP a b [x] = plL a b x := by rw [newsP_cons]; simp [newsP]
theorem newsP_len (a b : Nat) : ∀ L : List PL, (newsP a b L).length = L.length * 3
  | [] => rfl
  | e :: t => by rw [newsP_cons, List.length_append, newsP_len a b t, List.length_cons]; show 3 + _ = _; omega
theorem newsP_cell1 (a b : Nat) (L : List PL) : ∀ u ∈ newsP a b L, u.oneCell' = true := fun u hu => by
  obtain ⟨e, _, h⟩ := List.mem_flatMap.1 hu
  simp only [plL, List.mem_cons, List.not_mem_nil, or_false] at h
  rcases h with rfl | rfl | rfl <;> rfl
theorem newsP_at (a b : Nat) : ∀ (L : List PL) (i r : Nat) (e : PL), L[i]? = some e → r < 3 → (newsP a b L)[i * 3 + r]? = (plL a b e)[r]?
  | [], i, r, e, h, _ => by simp at h
  | x :: t, 0, r, e, h, hr => by
    cases h
    rw [newsP_cons, List.getElem?_append_left (by show _ < 3; omega)]
    congr 1; omega
  | x :: t, i + 1, r, e, h, hr => by
    rw [newsP_cons, List.getElem?_append_right (by show 3 ≤ _; omega)]
    rw [← newsP_at a b t i r e (by simpa using h) hr]
    congr 1; show _ - 3 = _; omega
/-- Planes of one size in a row. -/
def PIs (w : World) (g o a b : Nat) (L : List PL) : Prop := ∀ i x, L[i]? = some x → w.cell? ⟨g, o + i * 3, none⟩ = some (.int .i64 (a : Int)) ∧ w.cell? ⟨g, o + i * 3 + 1, none⟩ = some (.int .i64 (b : Int)) ∧ w.cell? ⟨g, o + i * 3 + 2, none⟩ = some x.v
theorem PIs.next {w w' : World} {g o a b : Nat} {L : List PL} (h : PIs w g o a b L) (q : Q w w') : PIs w' g o a b L := fun i x hx => by
  obtain ⟨h1, h2, h3⟩ := h i x hx
  exact ⟨q.cell h1, q.cell h2, q.cell h3⟩
theorem Fr.pis {w w' : World} {R : Nat → Prop} (f : Fr w w' R) {g o a b : Nat} {L : List PL} (h : PIs w g o a b L) (hr : R g) : PIs w' g o a b L := fun i x hx => by
  obtain ⟨h1, h2, h3⟩ := h i x hx
  exact ⟨f.cell h1 hr, f.cell h2 hr, f.cell h3 hr⟩
/-- A plane's samples are there. -/
structure Gd (w : World) (n : Nat) (x : PL) : Prop where
  len : x.S.length = n
  room : x.S.length ≤ x.cap
  us : UIs w x.g x.o x.S
  lt : ∀ i, x.S.getD i 0 < 4294967296
theorem Gd.next {w w' : World} {n : Nat} {x : PL} (h : Gd w n x) (q : Q w w') : Gd w' n x := ⟨h.len, h.room, h.us.next q, h.lt⟩
theorem Gd.usl {w : World} {n : Nat} {x : PL} (h : Gd w n x) : USl w x.v x.S := h.us.usl h.room
/-- The planes of a picture that may be. -/
structure Pc (w : World) (g o a b : Nat) (L : List PL) : Prop where
  size : Size a b
  n1 : 1 ≤ L.length
  n4 : L.length ≤ 4
  row : PIs w g o a b L
  it : ∀ x ∈ L, Gd w (a * b) x
theorem Pc.next {w w' : World} {g o a b : Nat} {L : List PL} (h : Pc w g o a b L) (q : Q w w') : Pc w' g o a b L := ⟨h.size, h.n1, h.n4, h.row.next q, fun x hx => (h.it x hx).next q⟩
/-- A plane of the call's own. -/
structure Mine (base : Nat) (w : World) (n : Nat) (x : PL) : Prop where
  o : x.o = 0
  low : base ≤ x.g
  high : x.g < w.heap.size
  gd : Gd w n x
  free : ∀ j, w.frozen? ⟨x.g, j, none⟩ = false
  all : ∀ j, j < x.cap → ∃ u, w.cell? ⟨x.g, j, none⟩ = some u
  cm : x.cap ≤ maxLen
theorem Mine.keep {base : Nat} {w w' : World} {n : Nat} {x : PL} {R : Nat → Prop} (h : Mine base w n x) (f : Fr w w' R) (hr : R x.g) : Mine base w' n x :=
  ⟨h.o, h.low, Nat.lt_of_lt_of_le h.high f.size, ⟨h.gd.len, h.gd.room, f.uis h.gd.us hr, h.gd.lt⟩, fun j => (f.frz _).trans (h.free j), fun j hj => by obtain ⟨u, hu⟩ := h.all j hj; exact ⟨u, f.cell hu hr⟩, h.cm⟩
theorem Mine.next {base : Nat} {w w' : World} {n : Nat} {x : PL} (h : Mine base w n x) (q : Q w w') : Mine base w' n x := h.keep (q.fr fun _ => True) trivial
theorem Mine.mono {base base' : Nat} {w : World} {n : Nat} {x : PL} (h : Mine base w n x) (hb : base' ≤ base) : Mine base' w n x := ⟨h.o, Nat.le_trans hb h.low, h.high, h.gd, h.free, h.all, h.cm⟩
/-- Planes of the call's own in a row of the call's own. -/
structure Row (base : Nat) (w : World) (v : Value) (a b : Nat) (L : List PL) : Prop where
  own : w.ownsRow base 47 3 v L.length (newsP a b L)
  it : ∀ x ∈ L, Mine base w (a * b) x ∧ v.ownBlock ≠ some x.g
  ap : L.Pairwise (fun x y => x.g ≠ y.g)
theorem Row.nil (base : Nat) (w : World) (a b : Nat) : Row base w (.slice none 0 0) a b [] := ⟨World.ownsRow_nil _ _ _ _, fun x h => (by cases h), List.Pairwise.nil⟩
theorem Row.keep {base : Nat} {w w' : World} {v : Value} {a b : Nat} {L : List PL} {R : Nat → Prop} (h : Row base w v a b L) (f : Fr w w' R) (h1 : ∀ x, v.ownBlock = some x → R x) (h2 : ∀ x ∈ L, R x.g) : Row base w' v a b L :=
  ⟨f.row h.own h1, fun x hx => ⟨(h.it x hx).1.keep f (h2 x hx), (h.it x hx).2⟩, h.ap⟩
theorem Row.next {base : Nat} {w w' : World} {v : Value} {a b : Nat} {L : List PL} (h : Row base w v a b L) (q : Q w w') : Row base w' v a b L := h.keep (q.fr fun _ => True) (fun _ _ => trivial) (fun _ _ => trivial)
theorem Row.form {base : Nat} {w : World} {v : Value} {a b : Nat} {L : List PL} (h : Row base w v a b L) : ∃ ad c, v = .slice ad L.length c := by
  rcases h.own.2 with ⟨rfl, h2⟩ | ⟨g, cap, cur, h1, _⟩
  · exact ⟨none, 0, by rw [h2]⟩
  · exact ⟨_, cap, h1⟩
theorem Row.push {base : Nat} {w w' : World} {v : Value} {a b : Nat} {L : List PL} (h : Row base w v a b L) {g cap : Nat} {x : PL}
    (own : w'.ownsRow base 47 3 (.slice (some ⟨g, 0, none⟩) (L.length + 1) cap) (L.length + 1) (newsP a b L ++ plL a b x)) (gr : w.grownBy w' v.ownBlock) (hg : v.ownBlock = some g ∨ g = w.heap.size) (fz : ∀ p, w'.frozen? p = w.frozen? p)
    (hx : Mine base w (a * b) x) (hn : v.ownBlock ≠ some x.g) (hd : ∀ y ∈ L, y.g ≠ x.g) : Row base w' (.slice (some ⟨g, 0, none⟩) (L.length + 1) cap) a b (L ++ [x]) := by
  have F : Fr w w' (fun b => v.ownBlock ≠ some b) := ⟨gr.os, gr.tape, gr.output, gr.size, fun y hy hR => gr.block y hy (fun e => hR e.symm), fz⟩
  have key : ∀ y, y.g < w.heap.size → v.ownBlock ≠ some y.g → g ≠ PL.g y := fun y h1 h2 e => by
    rcases hg with o | o
    · exact h2 (by rw [o, e])
    · omega
  refine ⟨by rw [newsP_append, newsP_one, List.length_append]; exact own, fun y hy => ?_, ?_⟩
  · rw [List.mem_append, List.mem_singleton] at hy
    rcases hy with hy | rfl
    · obtain ⟨p1, p2⟩ := h.it y hy
      exact ⟨p1.keep F p2, fun e => key y p1.high p2 (by injection e)⟩
    · exact ⟨hx.keep F hn, fun e => key y hx.high hn (by injection e)⟩
  · rw [List.pairwise_append]
    refine ⟨h.ap, List.pairwise_singleton _ _, fun y hy z hz => ?_⟩
    rw [List.mem_singleton] at hz
    subst hz
    exact hd y hy
theorem Row.pis {base : Nat} {w : World} {g n cap a b : Nat} {L : List PL} (h : Row base w (.slice (some ⟨g, 0, none⟩) n cap) a b L) : n = L.length ∧ n ≤ cap ∧ base ≤ g ∧ PIs w g 0 a b L ∧ ∀ j, w.frozen? ⟨g, j, none⟩ = false := by
  obtain ⟨h1, ⟨h2, _⟩ | ⟨g', cap', cur, h2, hb, hg, hn, hm, hs, ht⟩⟩ := h.own
  · cases h2
  · cases h2
    refine ⟨rfl, hn, hb, fun i x hx => ?_, fun j => frozen_of_row _ _ _ _ _ hg⟩
    have hi : i < L.length := (List.getElem?_eq_some_iff.1 hx).1
    have key : ∀ r, r < 3 → w.cell? ⟨g, 0 + i * 3 + r, none⟩ = (plL a b x)[r]? := fun r hr => by
      rw [cell_of_row _ _ _ _ _ _ hg, ← newsP_at a b L i r x hx hr, ← ht, List.getElem?_take_of_lt (by omega), Nat.zero_add, Array.getElem?_toList]
    exact ⟨key 0 (by omega), key 1 (by omega), key 2 (by omega)⟩
/-- A picture that was made. -/
structure Nw (lo : Nat) (w : World) (g cap a b : Nat) (L : List PL) : Prop where
  pc : Pc w g 0 a b L
  low : lo ≤ g
  high : g < w.heap.size
  room : L.length ≤ cap
  free : ∀ j, w.frozen? ⟨g, j, none⟩ = false
  it : ∀ x ∈ L, Mine lo w (a * b) x ∧ x.g ≠ g
  ap : L.Pairwise (fun x y => x.g ≠ y.g)
theorem Nw.next {lo : Nat} {w w' : World} {g cap a b : Nat} {L : List PL} (h : Nw lo w g cap a b L) (q : Q w w') : Nw lo w' g cap a b L :=
  ⟨h.pc.next q, h.low, Nat.lt_of_lt_of_le h.high q.1.size, h.room, fun j => (q.2 _).trans (h.free j), fun x hx => ⟨(h.it x hx).1.next q, (h.it x hx).2⟩, h.ap⟩
theorem Nw.keep {lo : Nat} {w w' : World} {g cap a b : Nat} {L : List PL} {R : Nat → Prop} (h : Nw lo w g cap a b L) (f : Fr w w' R) (h1 : R g) (h2 : ∀ x ∈ L, R x.g) : Nw lo w' g cap a b L :=
  ⟨⟨h.pc.size, h.pc.n1, h.pc.n4, f.pis h.pc.row h1, fun x hx => ((h.it x hx).1.keep f (h2 x hx)).gd⟩, h.low, Nat.lt_of_lt_of_le h.high f.size, h.room, fun j => (f.frz _).trans (h.free j), fun x hx => ⟨(h.it x hx).1.keep f (h2 x hx), (h.it x hx).2⟩, h.ap⟩
theorem Nw.mono {lo lo' : Nat} {w : World} {g cap a b : Nat} {L : List PL} (h : Nw lo w g cap a b L) (hl : lo' ≤ lo) : Nw lo' w g cap a b L :=
  ⟨h.pc, Nat.le_trans hl h.low, h.high, h.room, h.free, fun x hx => ⟨(h.it x hx).1.mono hl, (h.it x hx).2⟩, h.ap⟩
theorem Row.nw {base : Nat} {w : World} {g n cap a b : Nat} {L : List PL} (h : Row base w (.slice (some ⟨g, 0, none⟩) n cap) a b L) (hs : Size a b) (h1 : 1 ≤ L.length) (h4 : L.length ≤ 4) : Nw base w g cap a b L := by
  obtain ⟨p1, p2, p3, p4, p5⟩ := h.pis
  obtain ⟨x, hx⟩ : ∃ x, L[0]? = some x := ⟨_, List.getElem?_eq_getElem (by omega)⟩
  refine ⟨⟨hs, h1, h4, p4, fun x hx => (h.it x hx).1.gd⟩, p3, cell_in (p4 0 x hx).1, by omega, p5, fun x hx => ⟨(h.it x hx).1, fun e => (h.it x hx).2 (by rw [e]; rfl)⟩, h.ap⟩
/-- A picture as a value. -/
def picV (sp : Int) (g o n cap : Nat) : Value := .agg #[.int .i64 sp, .slice (some ⟨g, o, none⟩) n cap]
end Go.Proofs.Ytdempklpmggdoaa
/- Sizes, borders: the program's and the document's. -/
namespace Go.Proofs.Ytdempklpmggdoaa
open Go.RowKit
set_option linter.unusedVariables false
set_option linter.unusedSimpArgs false

def sizeB (W H : Int) : Bool := decide (1 ≤ W) && decide (W ≤ 1024) && decide (1 ≤ H) && decide (H ≤ 1024) && decide (W * H ≤ 65536)
theorem sizeB_true {W H : Int} : sizeB W H = true ↔ SizeB W H := by
  unfold sizeB SizeB
  simp only [Bool.and_eq_true, decide_eq_true_eq]
  constructor
  · rintro ⟨⟨⟨⟨a, b⟩, c⟩, d⟩, e⟩; exact ⟨a, b, c, d, e⟩
  · rintro ⟨a, b, c, d, e⟩; exact ⟨⟨⟨⟨a, b⟩, c⟩, d⟩, e⟩
theorem sizeB_false {W H : Int} (h : ¬ SizeB W H) : sizeB W H = false := by
  cases g : sizeB W H
  · rfl
  · exact absurd (sizeB_true.1 g) h
def sideB (n : Int) : Bool := decide (1 ≤ n) && decide (n ≤ 1024)
theorem sizeB_eq (W H : Int) : sizeB W H = (sideB W && (sideB H && decide (W * H ≤ 65536))) := by
  unfold sizeB sideB
  cases decide (1 ≤ W) <;> cases decide (W ≤ 1024) <;> cases decide (1 ≤ H) <;> cases decide (H ≤ 1024) <;> rfl
theorem sideB_true {n : Int} : sideB n = true ↔ 1 ≤ n ∧ n ≤ 1024 := by
  unfold sideB; simp
theorem area_le {a b : Int} (ha : 1 ≤ a ∧ a ≤ 1024) (hb : 1 ≤ b ∧ b ≤ 1024) : 1 ≤ a * b ∧ a * b ≤ 1048576 := by
  have h1 : a * b ≤ 1024 * b := Int.mul_le_mul_of_nonneg_right ha.2 (by omega)
  have h2 : 1 * b ≤ a * b := Int.mul_le_mul_of_nonneg_right ha.1 (by omega)
  omega

theorem isSide_any (n : Int) (w : World) : Calls Try.prog 59 #[.int .i64 n] w fun e w' => e = .returned (.bool (sideB n)) ∧ w' = w := by
  by_cases h1 : 1 ≤ n
  · by_cases h2 : n ≤ 1024
    · have e : sideB n = true := sideB_true.2 ⟨h1, h2⟩
      rw [e]
      clear e
      go_enter Try.func59, Try.ntmps59
      go_wp2_with fail
      go_ret
      exact ⟨rfl, rfl⟩
    · have e : sideB n = false := by unfold sideB; simp [h2]
      rw [e]
      clear e
      go_enter Try.func59, Try.ntmps59
      go_wp2_with fail
      go_ret
      exact ⟨rfl, rfl⟩
  · have e : sideB n = false := by unfold sideB; simp [h1]
    rw [e]
    clear e
    go_enter Try.func59, Try.ntmps59
    go_wp2_with fail
    go_ret
    exact ⟨rfl, rfl⟩
theorem isSize_any (W H : Int) (w : World) : Calls Try.prog 38 #[.int .i64 W, .int .i64 H] w fun e w' => e = .returned (.bool (sizeB W H)) ∧ w' = w := by
  rw [sizeB_eq]
  cases hW : sideB W
  · have A : Calls Try.prog 59 #[.int .i64 W] w fun e w' => e = .returned (.bool false) ∧ w' = w := hW ▸ isSide_any W w
    go_enter Try.func38, Try.ntmps38
    go_wp2_with (go_at_call 59; refine A.mono ?_; rintro e w1 ⟨rfl, rfl⟩)
    go_ret
    exact ⟨rfl, rfl⟩
  · have A : Calls Try.prog 59 #[.int .i64 W] w fun e w' => e = .returned (.bool true) ∧ w' = w := hW ▸ isSide_any W w
    cases hH : sideB H
    · have B : Calls Try.prog 59 #[.int .i64 H] w fun e w' => e = .returned (.bool false) ∧ w' = w := hH ▸ isSide_any H w
      go_enter Try.func38, Try.ntmps38
      go_wp2_with fail
      refine A.mono ?_
      rintro e w1 ⟨rfl, rfl⟩
      go_wp2_with fail
      refine B.mono ?_
      rintro e w1 ⟨rfl, rfl⟩
      go_wp2_with fail
      go_ret
      exact ⟨rfl, rfl⟩
    · have B : Calls Try.prog 59 #[.int .i64 H] w fun e w' => e = .returned (.bool true) ∧ w' = w := hH ▸ isSide_any H w
      have h1 := sideB_true.1 hW
      have h2 := sideB_true.1 hH
      have h3 := area_le h1 h2
      clear hW hH
      by_cases h4 : W * H ≤ 65536
      · rw [decide_eq_true h4]
        generalize hA : W * H = A0 at h3 h4
        go_enter Try.func38, Try.ntmps38
        go_wp2_with fail
        refine A.mono ?_
        rintro e w1 ⟨rfl, rfl⟩
        go_wp2_with fail
        refine B.mono ?_
        rintro e w1 ⟨rfl, rfl⟩
        go_wp2_with fail
        go_ret
        exact ⟨rfl, rfl⟩
      · rw [decide_eq_false h4]
        generalize hA : W * H = A0 at h3 h4
        have h5 : decide (A0 ≤ 65536) = false := decide_eq_false h4
        go_enter Try.func38, Try.ntmps38
        go_wp2_with fail
        refine A.mono ?_
        rintro e w1 ⟨rfl, rfl⟩
        go_wp2_with fail
        refine B.mono ?_
        rintro e w1 ⟨rfl, rfl⟩
        go_wp2_with fail
        go_ret
        exact ⟨rfl, rfl⟩

/-- What is wrong with a plane. -/
def chk (W H : Int) (n : Nat) : Int := if sizeB W H = true then (if (n : Int) = W * H then 0 else 51) else 50
theorem chk_bad {W H : Int} {n : Nat} (h : sizeB W H = false) : chk W H n = 50 := by unfold chk; rw [h]; rfl
theorem chk_count {W H : Int} {n : Nat} (h : sizeB W H = true) (hn : (n : Int) ≠ W * H) : chk W H n = 51 := by unfold chk; rw [if_pos h, if_neg hn]
theorem chk_ok {W H : Int} {n : Nat} (h : sizeB W H = true) (hn : (n : Int) = W * H) : chk W H n = 0 := by unfold chk; rw [if_pos h, if_pos hn]
theorem chk_zero {W H : Int} {n : Nat} (h : chk W H n = 0) : ∃ a b : Nat, W = a ∧ H = b ∧ Size a b ∧ n = a * b := by
  unfold chk at h
  by_cases g : sizeB W H = true
  · rw [if_pos g] at h
    by_cases g2 : (n : Int) = W * H
    · obtain ⟨a, b, rfl, rfl, hs⟩ := (sizeB_true.1 g).nat
      refine ⟨a, b, rfl, rfl, hs, ?_⟩
      rw [← Int.natCast_mul] at g2
      omega
    · rw [if_neg g2] at h; exact absurd h (by decide)
  · rw [if_neg g] at h; exact absurd h (by decide)
theorem chk_size {a b : Nat} (h : Size a b) : chk a b (a * b) = 0 := chk_ok (sizeB_true.2 h.b) (by rw [Int.natCast_mul])
theorem chk_cases (W H : Int) (n : Nat) : chk W H n = 50 ∨ chk W H n = 51 ∨ chk W H n = 0 := by
  unfold chk; split
  · split <;> simp
  · simp
set_option maxHeartbeats 1000000 in
theorem check_any (W H : Int) (a : Option Addr) (n c : Nat) (hn : n ≤ 9223372036854775807) (w : World) :
    Calls Try.prog 18 #[.agg #[.int .i64 W, .int .i64 H, .slice a n c]] w fun e w' => e = .returned (.int .i64 (chk W H n)) ∧ Q w w' := by
  have q0 : ∀ c t, Q w (w.alloc (.cells c t)) := fun c t => (Q.refl w).cells c t
  have Q0 : Hid (∀ c t, Q w (w.alloc (.cells c t))) := q0
  clear q0
  cases hS : sizeB W H
  · have A : ∀ w : World, Calls Try.prog 38 #[.int .i64 W, .int .i64 H] w fun e w' => e = .returned (.bool false) ∧ w' = w := fun w => hS ▸ isSize_any W H w
    rw [chk_bad hS]
    clear hS
    go_enter Try.func18, Try.ntmps18
    go_wp2_with (go_at_call 38; refine (A _).mono ?_; rintro e w1 ⟨rfl, rfl⟩)
    go_ret
    exact ⟨rfl, Q0.out _ _⟩
  · have A : ∀ w : World, Calls Try.prog 38 #[.int .i64 W, .int .i64 H] w fun e w' => e = .returned (.bool true) ∧ w' = w := fun w => hS ▸ isSize_any W H w
    obtain ⟨h1, h2, h3, h4, h5⟩ := sizeB_true.1 hS
    have h6 := area_le ⟨h1, h2⟩ ⟨h3, h4⟩
    by_cases hc : (n : Int) = W * H
    · rw [chk_ok hS hc]
      have hw : IntKind.i64.wrap (W * H) = W * H := by rw [IntKind.wrap_i64]; omega
      have hb : ((n : Int) == W * H) = true := by rw [hc]; simp
      have hb2 : ((n : Int) != W * H) = false := by rw [hc]; simp
      clear hS hc h5 h6 h1 h2 h3 h4
      go_enter Try.func18, Try.ntmps18
      go_wp2_with (go_at_call 38; refine (A _).mono ?_; rintro e w1 ⟨rfl, rfl⟩)
      go_ret
      exact ⟨rfl, Q0.out _ _⟩
    · rw [chk_count hS hc]
      have hw : IntKind.i64.wrap (W * H) = W * H := by rw [IntKind.wrap_i64]; omega
      have hb : ((n : Int) == W * H) = false := by rw [beq_eq_false_iff_ne]; exact hc
      have hb2 : ((n : Int) != W * H) = true := by rw [bne_iff_ne]; exact hc
      clear hS hc h5 h6 h1 h2 h3 h4
      go_enter Try.func18, Try.ntmps18
      go_wp2_with (go_at_call 38; refine (A _).mono ?_; rintro e w1 ⟨rfl, rfl⟩)
      go_ret
      exact ⟨rfl, Q0.out _ _⟩

theorem tmod_mod (i n : Int) (hn : 0 < n) : (0 ≤ Int.tmod i n → Int.tmod i n = i % n) ∧ (Int.tmod i n < 0 → Int.tmod i n + n = i % n) ∧ -n < Int.tmod i n ∧ Int.tmod i n < n := by
  have e : n * Int.tdiv i n + Int.tmod i n = i := Int.mul_tdiv_add_tmod i n
  have l1 := Int.tmod_lt_of_pos i hn
  have l2 : -n < Int.tmod i n := Int.lt_tmod_of_pos i hn
  have e2 : i % n = Int.tmod i n % n := by
    conv => lhs; rw [← e]
    rw [Int.add_comm, Int.add_mul_emod_self_left]
  refine ⟨fun h => ?_, fun h => ?_, l2, l1⟩
  · rw [e2, Int.emod_eq_of_lt h l1]
  · rw [e2, ← Int.add_emod_right, Int.emod_eq_of_lt (by omega) (by omega)]
end Go.Proofs.Ytdempklpmggdoaa
/- What is wrong with a picture. -/
namespace Go.Proofs.Ytdempklpmggdoaa
open Go.RowKit
set_option linter.unusedVariables false
set_option linter.unusedSimpArgs false

def numB (n : Int) : Bool := decide (1 ≤ n) && decide (n ≤ 4)
def spcB (k n : Int) : Bool := k == 0 || (decide (0 < k) && decide (k ≤ 4) && (n == 3 || n == 4))
theorem isnumber_any (n : Int) (w : World) : Calls Try.prog 17 #[.int .i64 n] w fun e w' => e = .returned (.bool (numB n)) ∧ w' = w := by
  unfold numB
  by_cases h1 : 1 ≤ n
  · by_cases h2 : n ≤ 4
    · rw [decide_eq_true h1, decide_eq_true h2]
      go_enter Try.func17, Try.ntmps17
      go_wp2_with fail
      go_ret
      exact ⟨rfl, rfl⟩
    · rw [decide_eq_true h1, decide_eq_false h2]
      have g2 := decide_eq_false h2
      go_enter Try.func17, Try.ntmps17
      go_wp2_with fail
      go_ret
      exact ⟨rfl, rfl⟩
  · rw [decide_eq_false h1]
    have g1 := decide_eq_false h1
    go_enter Try.func17, Try.ntmps17
    go_wp2_with fail
    go_ret
    exact ⟨rfl, rfl⟩
set_option maxHeartbeats 1000000 in
theorem isspace8_any (k n : Int) (w : World) : Calls Try.prog 20 #[.int .i64 k, .int .i64 n] w fun e w' => e = .returned (.bool (spcB k n)) ∧ w' = w := by
  by_cases h0 : k = 0
  · subst h0
    go_enter Try.func20, Try.ntmps20
    go_wp2_with fail
    go_ret
    exact ⟨rfl, rfl⟩
  · have b0 : (k == 0) = false := by rw [beq_eq_false_iff_ne]; exact h0
    by_cases h1 : 0 < k
    · by_cases h2 : k ≤ 4
      · have e : spcB k n = (n == 3 || n == 4) := by unfold spcB; rw [b0, decide_eq_true h1, decide_eq_true h2]; simp
        rw [e]
        by_cases h3 : n = 3
        · subst h3
          go_enter Try.func20, Try.ntmps20
          go_wp2_with fail
          go_ret
          exact ⟨rfl, rfl⟩
        · have b3 : (n == 3) = false := by rw [beq_eq_false_iff_ne]; exact h3
          rw [b3]
          go_enter Try.func20, Try.ntmps20
          go_wp2_with fail
          go_ret
          exact ⟨by simp, rfl⟩
      · have e : spcB k n = false := by unfold spcB; rw [b0, decide_eq_false h2]; simp
        rw [e]
        have g2 := decide_eq_false h2
        go_enter Try.func20, Try.ntmps20
        go_wp2_with fail
        go_ret
        exact ⟨rfl, rfl⟩
    · have e : spcB k n = false := by unfold spcB; rw [b0, decide_eq_false h1]; simp
      rw [e]
      have g1 := decide_eq_false h1
      go_enter Try.func20, Try.ntmps20
      go_wp2_with fail
      go_ret
      exact ⟨rfl, rfl⟩
set_option maxHeartbeats 1000000 in
theorem onesize_any (a b c d : Int) (p q : Option Addr) (n m k l : Nat) (w : World) : Calls Try.prog 19 #[.agg #[.int .i64 a, .int .i64 b, .slice p n m], .agg #[.int .i64 c, .int .i64 d, .slice q k l]] w fun e w' => e = .returned (.bool (a == c && b == d)) ∧ Q w w' := by
  have q0 : Hid (∀ c t c' t', Q w ((w.alloc (.cells c t)).alloc (.cells c' t'))) := fun c t c' t' => ((Q.refl w).cells c t).cells c' t'
  by_cases h1 : a = c
  · subst h1
    go_enter Try.func19, Try.ntmps19
    go_wp2_with fail
    go_ret
    exact ⟨by simp, q0.out _ _ _ _⟩
  · have b1 : (a == c) = false := by rw [beq_eq_false_iff_ne]; exact h1
    rw [b1]
    go_enter Try.func19, Try.ntmps19
    go_wp2_with fail
    go_ret
    exact ⟨rfl, q0.out _ _ _ _⟩
/-- A plane that came in: its sides, where its list lies, its samples. -/
structure PD where
  W : Int
  H : Int
  ad : Option Addr
  cap : Nat
  S : List Nat
def PD.sv (x : PD) : Value := .slice x.ad x.S.length x.cap
def DIs (w : World) (g o : Nat) (D : List PD) : Prop := ∀ i x, D[i]? = some x → w.cell? ⟨g, o + i * 3, none⟩ = some (.int .i64 x.W) ∧ w.cell? ⟨g, o + i * 3 + 1, none⟩ = some (.int .i64 x.H) ∧ w.cell? ⟨g, o + i * 3 + 2, none⟩ = some (.slice x.ad x.S.length x.cap) ∧ USl w x.sv x.S
theorem DIs.next {w w' : World} {g o : Nat} {D : List PD} (h : DIs w g o D) (q : Q w w') : DIs w' g o D := fun i x hx => by
  obtain ⟨h1, h2, h3, h4⟩ := h i x hx
  exact ⟨q.cell h1, q.cell h2, q.cell h3, h4.next q⟩
def DSl (w : World) (v : Value) (D : List PD) : Prop := (∃ ad c, v = .slice ad 0 c ∧ D = []) ∨ ∃ g o c, v = .slice (some ⟨g, o, none⟩) D.length c ∧ D.length ≤ c ∧ DIs w g o D
theorem DSl.next {w w' : World} {v : Value} {D : List PD} (h : DSl w v D) (q : Q w w') : DSl w' v D := by
  rcases h with h | ⟨g, o, c, h1, h2, h3⟩
  · exact Or.inl h
  · exact Or.inr ⟨g, o, c, h1, h2, h3.next q⟩
theorem DSl.form {w : World} {v : Value} {D : List PD} (h : DSl w v D) : ∃ ad c, v = .slice ad D.length c := by
  rcases h with ⟨ad, c, rfl, rfl⟩ | ⟨g, o, c, rfl, _⟩
  · exact ⟨ad, c, rfl⟩
  · exact ⟨_, c, rfl⟩
theorem DSl.some {w : World} {v : Value} {D : List PD} (h : DSl w v D) (h1 : 1 ≤ D.length) : ∃ g o c, v = .slice (some ⟨g, o, none⟩) D.length c ∧ D.length ≤ c ∧ DIs w g o D := by
  rcases h with ⟨ad, c, rfl, rfl⟩ | h
  · simp at h1
  · exact h
def PD.chk (x : PD) : Int := Proofs.Ytdempklpmggdoaa.chk x.W x.H x.S.length
def firstE : List PD → Int
  | [] => 0
  | x :: t => if x.chk = 0 then firstE t else x.chk
def PD.like (x y : PD) : Bool := x.W == y.W && x.H == y.H
def pd0 : PD := ⟨0, 0, none, 0, []⟩
/-- What is wrong with a picture. -/
def chkP (sp : Int) (D : List PD) : Int := if numB D.length = true then (if firstE D = 0 then (if (D.all fun x => x.like (D.getD 0 pd0)) = true then (if spcB sp D.length = true then 0 else 81) else 80) else firstE D) else 80
theorem firstE_at {D : List PD} {i : Nat} {x : PD} (hx : D[i]? = some x) (h : ∀ j y, j < i → D[j]? = some y → y.chk = 0) (hc : x.chk ≠ 0) : firstE D = x.chk := by
  induction D generalizing i with
  | nil => simp at hx
  | cons y t ih =>
    cases i with
    | zero =>
      have : y = x := by simpa using hx
      subst this
      unfold firstE
      rw [if_neg hc]
    | succ i =>
      unfold firstE
      rw [if_pos (h 0 y (by omega) rfl)]
      exact ih (by simpa using hx) (fun j z hj hz => h (j + 1) z (by omega) (by simpa using hz))
theorem firstE_ok {D : List PD} (h : ∀ (j : Nat) (y : PD), D[j]? = some y → y.chk = 0) : firstE D = 0 := by
  induction D with
  | nil => rfl
  | cons y t ih =>
    unfold firstE
    rw [if_pos (h 0 y rfl)]
    exact ih (fun j z hz => h (j + 1) z (by simpa using hz))
theorem firstE_zero {D : List PD} (h : firstE D = 0) : ∀ x ∈ D, x.chk = 0 := by
  induction D with
  | nil => exact fun x hx => by cases hx
  | cons y t ih =>
    unfold firstE at h
    by_cases hy : y.chk = 0
    · rw [if_pos hy] at h
      intro x hx
      rcases List.mem_cons.1 hx with rfl | hx
      · exact hy
      · exact ih h x hx
    · rw [if_neg hy] at h; exact absurd h hy
end Go.Proofs.Ytdempklpmggdoaa
