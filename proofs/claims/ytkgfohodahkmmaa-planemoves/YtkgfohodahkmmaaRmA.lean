/- What a Room and a Book hold, and what they leave alone. -/
import Derived.Test.YtkgfohodahkmmaaAppG
import Derived.Test.YtkgfohodahkmmaaAppN
import Derived.Test.YtkgfohodahkmmaaPlR
namespace Go.Proofs.Ytkgfohodahkmmaa
open Go.RowKit
set_option linter.unusedVariables false
set_option linter.unusedSimpArgs false

/-- The blocks of R stay. -/
structure Fr (w w' : World) (R : Nat → Prop) : Prop where
  os : w'.os = w.os
  tape : w'.tape = w.tape
  output : w'.output = w.output
  size : w.heap.size ≤ w'.heap.size
  block : ∀ b, b < w.heap.size → R b → w'.heap[b]? = w.heap[b]?
  frz : ∀ a, w'.frozen? a = w.frozen? a
theorem Fr.refl (w : World) (R : Nat → Prop) : Fr w w R := ⟨rfl, rfl, rfl, Nat.le_refl _, fun _ _ _ => rfl, fun _ => rfl⟩
theorem Q.fr {w w' : World} (q : Q w w') (R : Nat → Prop) : Fr w w' R := ⟨q.1.os, q.1.tape, q.1.output, q.1.size, fun b hb _ => q.1.block b hb, q.2⟩
theorem Fr.q {w0 w w' : World} {R : Nat → Prop} (f : Fr w w' R) (q : Q w0 w) (hR : ∀ b, b < w0.heap.size → R b) : Q w0 w' :=
  ⟨⟨f.os.trans q.1.os, f.tape.trans q.1.tape, f.output.trans q.1.output, Nat.le_trans q.1.size f.size, fun b hb => (f.block b (Nat.lt_of_lt_of_le hb q.1.size) (hR b hb)).trans (q.1.block b hb)⟩, fun a => (f.frz a).trans (q.2 a)⟩
theorem Fr.trans {a b c : World} {R : Nat → Prop} (f : Fr a b R) (g : Fr b c R) : Fr a c R :=
  ⟨g.os.trans f.os, g.tape.trans f.tape, g.output.trans f.output, Nat.le_trans f.size g.size, fun x hx hr => (g.block x (Nat.lt_of_lt_of_le hx f.size) hr).trans (f.block x hx hr), fun x => (g.frz x).trans (f.frz x)⟩
theorem Fr.mono {a b : World} {R R' : Nat → Prop} (f : Fr a b R) (h : ∀ x, R' x → x < a.heap.size → R x) : Fr a b R' :=
  ⟨f.os, f.tape, f.output, f.size, fun x hx hr => f.block x hx (h x hr hx), f.frz⟩
theorem Fr.cell {a b : World} {R : Nat → Prop} (f : Fr a b R) {p : Addr} {v : Value} (h : a.cell? p = some v) (hr : R p.block) : b.cell? p = some v :=
  (World.cell?_of_block (f.block p.block (World.block_lt_of_cell? _ _ h) hr)).trans h
theorem Fr.uis {a b : World} {R : Nat → Prop} (f : Fr a b R) {g o : Nat} {S : List Nat} (h : UIs a g o S) (hr : R g) : UIs b g o S := fun i hi => f.cell (h i hi) hr
theorem Fr.set {a b : World} {R : Nat → Prop} (f : Fr a b R) {p : Addr} (hp : ¬ R p.block) (v : Value) : Fr a (b.setCell p v) R :=
  ⟨f.os, f.tape, f.output, by simpa [World.setCell] using f.size, fun x hx hr => (Below.heap_setCell _ _ _ _ (fun e => hp (by rw [← e]; exact hr))).trans (f.block x hx hr), fun x => (World.frozen?_setCell _ _ _ _).trans (f.frz x)⟩
theorem cell_in {w : World} {b i : Nat} {v : Value} (h : w.cell? ⟨b, i, none⟩ = some v) : b < w.heap.size := World.block_lt_of_cell? w _ h
theorem own_lt {w : World} {base : Nat} {e : TypeId} {size n : Nat} {v : Value} {xs : List Value} (h : w.ownsRow base e size v n xs) {b : Nat} (hb : v.ownBlock = some b) : base ≤ b ∧ b < w.heap.size := World.ownsRow.lt h b hb
theorem Fr.row {a b : World} {R : Nat → Prop} (f : Fr a b R) {base : Nat} {e : TypeId} {size n : Nat} {v : Value} {xs : List Value} (h : a.ownsRow base e size v n xs) (hr : ∀ x, v.ownBlock = some x → R x) : b.ownsRow base e size v n xs := by
  refine ⟨h.1, ?_⟩
  rcases h.2 with c | ⟨g, cap, cur, h1, h2, h3, h4⟩
  · exact Or.inl c
  · have hg : g < a.heap.size := by
      rcases Nat.lt_or_ge g a.heap.size with hlt | hge
      · exact hlt
      · rw [Array.getElem?_eq_none hge] at h3; cases h3
    exact Or.inr ⟨g, cap, cur, h1, h2, (f.block g hg (hr g (by rw [h1]; rfl))).trans h3, h4⟩
/-- Behind an append. -/
theorem Fr.app {w0 a b : World} {R : Nat → Prop} {row : Option Nat} (q : Q w0 a) (q' : Q w0 b) (hg : a.grownBy b row) (hr : ∀ x, row = some x → ¬ R x) : Fr a b R :=
  ⟨hg.os, hg.tape, hg.output, hg.size, fun x hx hR => hg.block x hx (fun e => hr x e.symm hR), fun x => (q'.2 x).trans (q.2 x).symm⟩

/-- The same in a region that draws its order. -/
theorem step_app_qg {P : Program} (w w0 : World) (q0 : Q w0 w) {ops : Array Oper} {o : Oper} {a : Act} {K : Act → World → Prop} {R : Exit → Act → World → Prop} {E : Prop} (hgd : o.guard = none) (s x : Operand) (t : TypeId)
    (ho : o.op = .call { callee := .builtin .append, args := #[s, x], argTypes := #[t, t] })
    (e : TypeId) (i : TypeInfo) (z : Value) (size bytes : Nat) (ht : P.underlying t = some (.slice e)) (hi : P.info? e = some i) (hz : i.zero = some z)
    (hsize : i.size = size) (hby : i.bytes = bytes) (hzs : z.cells.size = size) (hsz : 0 < size)
    (v : Value) (n : Nat) (xs : List Value) (hs : a.eval s = v) (hown : w.ownsRow w0.heap.size e size v n xs)
    (ad : Addr) (m c : Nat) (news : List Value) (hx : a.eval x = .slice (some ad) m c) (hl : news.length = m * size) (hnews : ∀ j u, news[j]? = some u → w.cell? (ad.add j) = some u) (h1 : ∀ u ∈ news, u.oneCell' = true)
    (hm : 0 < m) (h63 : n + m ≤ maxLen) (hbytes : (n + m) * bytes ≤ 140737488355328)
    (h : ∀ g cap w', w'.ownsRow w0.heap.size e size (.slice (some ⟨g, 0, none⟩) (n + m) cap) (n + m) (xs ++ news) → Q w0 w' → w.grownBy w' v.ownBlock → (v.ownBlock = some g ∨ g = w.heap.size) → K (a.put o.dst (.slice (some ⟨g, 0, none⟩) (n + m) cap)) w') :
    if Region.wanted o (yielded ops a.tmps) = true then Oper.wp P o a w K R else E := by
  have hw : Region.wanted o (yielded ops a.tmps) = true := by simp [Region.wanted, hgd]
  rw [if_pos hw]
  obtain ⟨g, cap, w', hr, h2, h3, h4, h5⟩ := run_app_qg (P := P) w w0 q0 t o.type e i z size bytes ht hi hz hsize hby hzs hsz v n xs hown ad m c news hl hnews h1 hm h63 hbytes
  unfold Oper.wp execOp
  simp only [ho, resolve, invoke, builtin, Sem.run_bind, Sem.run_pure, Result.andThen_ok, List.map_toArray, List.map_cons, List.map_nil, hs, hx, hr]
  exact h g cap w' h2 h3 h4 h5
/-- Appending to nothing, in a region that draws its order. -/
theorem step_app_new {P : Program} (w : World) {ops : Array Oper} {o : Oper} {a : Act} {K : Act → World → Prop} {R : Exit → Act → World → Prop} {E : Prop} (hgd : o.guard = none) (s x : Operand) (t : TypeId)
    (ho : o.op = .call { callee := .builtin .append, args := #[s, x], argTypes := #[t, t] })
    (e : TypeId) (i : TypeInfo) (z : Value) (ht : P.underlying t = some (.slice e)) (hi : P.info? e = some i) (hz : i.zero = some z)
    (v : Value) (hv : v = .slice none 0 0 ∨ ∃ b, v = .slice (some b) 0 0) (hs : a.eval s = v) (ad : Addr) (m c : Nat) (news : List Value) (hx : a.eval x = .slice (some ad) m c) (hl : news.length = m * i.size) (hnews : ∀ j u, news[j]? = some u → w.cell? (ad.add j) = some u)
    (h0 : 0 < m) (h63 : m ≤ 1125899906842624) (hby : m * i.bytes ≤ 140737488355328)
    (h : ∀ cap w', Q w w' → m ≤ cap → w'.heap.size = w.heap.size + 1 → (∀ j u, news[j]? = some u → w'.cell? ⟨w.heap.size, j, none⟩ = some u) → (∀ j, w'.frozen? ⟨w.heap.size, j, none⟩ = false) → K (a.put o.dst (.slice (some ⟨w.heap.size, 0, none⟩) m cap)) w') :
    if Region.wanted o (yielded ops a.tmps) = true then Oper.wp P o a w K R else E := by
  have hw : Region.wanted o (yielded ops a.tmps) = true := by simp [Region.wanted, hgd]
  rw [if_pos hw]
  obtain ⟨cap, w', hr, h1, h2, h3, h4, h5⟩ := run_app_new (P := P) w t o.type e i z ht hi hz v hv ad m c news hl hnews h0 h63 hby
  unfold Oper.wp execOp
  simp only [ho, resolve, invoke, builtin, Sem.run_bind, Sem.run_pure, Result.andThen_ok, List.map_toArray, List.map_cons, List.map_nil, hs, hx, hr]
  exact h cap w' h1 h2 h3 h4 h5
theorem rowInfo : ∃ i, Try.prog.info? 23 = some i ∧ i.size = 1 ∧ i.bytes = 24 ∧ i.zero = some (.slice none 0 0) :=
  info_of (by kernel_rfl) (by kernel_rfl)
theorem intInfo : ∃ i, Try.prog.info? 3 = some i ∧ i.size = 1 ∧ i.bytes = 8 ∧ i.zero = some (.int .i64 0) :=
  info_of (by kernel_rfl) (by kernel_rfl)
theorem news_one (W : World) (v0 : Value) (t : TypeId) : ∀ j u, [v0][j]? = some u → (W.alloc (.cells #[v0] t)).cell? ((⟨W.heap.size, 0, none⟩ : Addr).add j) = some u := by
  intro j u hu
  rw [show (⟨W.heap.size, 0, none⟩ : Addr).add j = ⟨W.heap.size, j, none⟩ by unfold Addr.add; split <;> simp_all, cell_of_row _ _ j #[v0] t (0, 0) (heap_alloc_new W _)]
  simpa using hu
theorem one_slice (a : Option Addr) (n c : Nat) : ∀ u ∈ [Value.slice a n c], u.oneCell' = true := by
  intro u hu
  simp at hu
  rw [hu]; rfl
theorem one_int (m : Int) : ∀ u ∈ [Value.int .i64 m], u.oneCell' = true := by
  intro u hu
  simp at hu
  rw [hu]; rfl
/-- A list of a row that is owned lies where it is said. -/
theorem own_cell {w : World} {base : Nat} {e : TypeId} {v : Value} {n : Nat} {xs : List Value} (h : w.ownsRow base e 1 v n xs) {i : Nat} {u : Value} (hu : xs[i]? = some u) : ∃ g cap, v = .slice (some ⟨g, 0, none⟩) n cap ∧ n ≤ cap ∧ i < n ∧ w.cell? ⟨g, i, none⟩ = some u := by
  have hl := h.1
  have hi : i < xs.length := (List.getElem?_eq_some_iff.1 hu).1
  rcases h.2 with ⟨rfl, rfl⟩ | ⟨g, cap, cur, h1, h2, h3, h4, h5, h6, h7⟩
  · omega
  · refine ⟨g, cap, h1, h4, by omega, ?_⟩
    rw [cell_of_row _ _ i cur e (0, 0) h3]
    rw [← h7] at hu
    rw [List.getElem?_take, if_pos (by omega)] at hu
    simpa using hu
theorem own_len {w : World} {base : Nat} {e : TypeId} {size : Nat} {v : Value} {n : Nat} {xs : List Value} (h : w.ownsRow base e size v n xs) : ∃ a cap, v = .slice a n cap := by
  rcases h.2 with ⟨rfl, rfl⟩ | ⟨g, cap, cur, h1, _⟩
  · exact ⟨_, _, rfl⟩
  · exact ⟨_, _, h1⟩

/-- A list that was lent, the copy that was kept of it, and what they hold. -/
structure Lend where
  g : Nat
  h : Nat
  cap : Nat
  V : List Nat
def Lend.s (x : Lend) : Value := .slice (some ⟨x.g, 0, none⟩) x.V.length x.V.length
def Lend.t (x : Lend) : Value := .slice (some ⟨x.h, 0, none⟩) x.V.length x.cap
structure Lie (base : Nat) (w : World) (r : Nat) (sv wv : Value) (g : Nat) (V : List Nat) : Prop where
  low : base ≤ g
  nr : g ≠ r
  ns : sv.ownBlock ≠ some g
  nw : wv.ownBlock ≠ some g
  lt : g < w.heap.size
  us : UIs w g 0 V
/-- What a Room holds. -/
structure Rm (base : Nat) (w : World) (r : Nat) (sv wv : Value) (L : List Lend) : Prop where
  c0 : w.cell? ⟨r, 0, none⟩ = some sv
  c1 : w.cell? ⟨r, 1, none⟩ = some wv
  c2 : w.cell? ⟨r, 2, none⟩ = some (.slice none 0 0)
  c4 : w.cell? ⟨r, 4, none⟩ = some (.slice none 0 0)
  c6 : w.cell? ⟨r, 6, none⟩ = some (.slice none 0 0)
  free : ∀ j, w.frozen? ⟨r, j, none⟩ = false
  low : base ≤ r
  own : w.ownsRow base 23 1 sv L.length (L.map Lend.s)
  were : w.ownsRow base 23 1 wv L.length (L.map Lend.t)
  a1 : sv.ownBlock ≠ some r
  a2 : wv.ownBlock ≠ some r
  a3 : ∀ b, sv.ownBlock = some b → wv.ownBlock ≠ some b
  it : ∀ x ∈ L, x.V.length ≤ x.cap ∧ Lie base w r sv wv x.g x.V ∧ Lie base w r sv wv x.h x.V
/-- The blocks of a Room. -/
def Blk (r : Nat) (sv wv : Value) (L : List Lend) (b : Nat) : Prop := b = r ∨ sv.ownBlock = some b ∨ wv.ownBlock = some b ∨ ∃ x ∈ L, x.g = b ∨ x.h = b
theorem Rm.lt {base : Nat} {w : World} {r : Nat} {sv wv : Value} {L : List Lend} (h : Rm base w r sv wv L) {b : Nat} (hb : Blk r sv wv L b) : base ≤ b ∧ b < w.heap.size := by
  rcases hb with rfl | e | e | ⟨x, hx, rfl | rfl⟩
  · exact ⟨h.low, cell_in h.c0⟩
  · exact own_lt h.own e
  · exact own_lt h.were e
  · exact ⟨(h.it x hx).2.1.low, (h.it x hx).2.1.lt⟩
  · exact ⟨(h.it x hx).2.2.low, (h.it x hx).2.2.lt⟩
theorem Lie.keep {base : Nat} {w w' : World} {r : Nat} {sv wv : Value} {g : Nat} {V : List Nat} {R : Nat → Prop} (h : Lie base w r sv wv g V) (f : Fr w w' R) (hR : R g) : Lie base w' r sv wv g V :=
  ⟨h.low, h.nr, h.ns, h.nw, Nat.lt_of_lt_of_le h.lt f.size, f.uis h.us hR⟩
theorem Rm.keep {base : Nat} {w w' : World} {r : Nat} {sv wv : Value} {L : List Lend} {R : Nat → Prop} (h : Rm base w r sv wv L) (f : Fr w w' R) (hR : ∀ b, Blk r sv wv L b → R b) : Rm base w' r sv wv L := by
  have hr : R r := hR r (Or.inl rfl)
  refine ⟨f.cell h.c0 hr, f.cell h.c1 hr, f.cell h.c2 hr, f.cell h.c4 hr, f.cell h.c6 hr, fun j => (f.frz _).trans (h.free j), h.low, f.row h.own (fun x hx => hR x (Or.inr (Or.inl hx))), f.row h.were (fun x hx => hR x (Or.inr (Or.inr (Or.inl hx)))), h.a1, h.a2, h.a3, fun x hx => ?_⟩
  obtain ⟨p1, p2, p3⟩ := h.it x hx
  exact ⟨p1, p2.keep f (hR _ (Or.inr (Or.inr (Or.inr ⟨x, hx, Or.inl rfl⟩)))), p3.keep f (hR _ (Or.inr (Or.inr (Or.inr ⟨x, hx, Or.inr rfl⟩))))⟩
theorem Rm.next {base : Nat} {w w' : World} {r : Nat} {sv wv : Value} {L : List Lend} (h : Rm base w r sv wv L) (q : Q w w') : Rm base w' r sv wv L := h.keep (q.fr fun _ => True) (fun _ _ => trivial)
end Go.Proofs.Ytkgfohodahkmmaa
