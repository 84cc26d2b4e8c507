/- What a Book keeps. -/
import Derived.Test.YtkgfohodahkmmaaRmE
namespace Go.Proofs.Ytkgfohodahkmmaa
open Go.RowKit
set_option linter.unusedVariables false
set_option linter.unusedSimpArgs false

/-- A mark. -/
def mkv (m i : Nat) : Nat := (m * 31 + i * 7 + 1) % 250 + 1
theorem mkv_lt (m i : Nat) : mkv m i ≤ 250 := by unfold mkv; omega
theorem mark_any (m i : Nat) (hm : m ≤ 100000) (hi : i ≤ 65536) (w : World) : Calls Try.prog 50 #[.int .i64 (m : Int), .int .i64 (i : Int)] w fun e w' => e = .returned (.int .i64 (mkv m i : Nat)) ∧ w' = w := by
  obtain ⟨z, hz⟩ : ∃ z, mkv m i = z := ⟨_, rfl⟩
  rw [hz]
  have h1 : Int.tmod ((m : Int) * 31 + (i : Int) * 7 + 1) 250 = (z : Int) - 1 := by
    rw [Int.tmod_eq_emod_of_nonneg (by omega)]
    unfold mkv at hz
    omega
  have h2 : z ≤ 251 := by unfold mkv at hz; omega
  have h3 : IntKind.i64.wrap ((z : Int) - 1) = (z : Int) - 1 := by rw [IntKind.wrap_i64]; omega
  have h4 : (z : Int) - 1 + 1 = (z : Int) := by omega
  clear hz
  go_enter Try.func50, Try.ntmps50
  go_wp2_with fail
  go_ret
  exact ⟨rfl, rfl⟩
/-- A list that is kept: where it lies, how long it is, by which number it was marked. -/
structure Kept where
  a : Option Nat
  n : Nat
  m : Nat
def Kept.s (x : Kept) : Value := .slice (x.a.map fun g => ⟨g, 0, none⟩) x.n x.n
def Kept.t (x : Kept) : Value := .int .i64 (x.m : Int)
def BBlk (k : Nat) (sv mv : Value) (L : List Kept) (b : Nat) : Prop := b = k ∨ sv.ownBlock = some b ∨ mv.ownBlock = some b ∨ ∃ x ∈ L, x.a = some b
structure KLie (base : Nat) (w : World) (k : Nat) (sv mv : Value) (g n m : Nat) : Prop where
  low : base ≤ g
  nk : g ≠ k
  ns : sv.ownBlock ≠ some g
  nm : mv.ownBlock ≠ some g
  lt : g < w.heap.size
  us : ∀ i, i < n → w.cell? ⟨g, i, none⟩ = some (.int .u32 (mkv m i : Nat))
/-- What a Book holds; the blocks of R it leaves alone. -/
structure Bk (R : Nat → Prop) (base : Nat) (w : World) (k : Nat) (sv mv : Value) (L : List Kept) : Prop where
  c0 : w.cell? ⟨k, 0, none⟩ = some sv
  c1 : w.cell? ⟨k, 1, none⟩ = some (.slice none 0 0)
  c2 : w.cell? ⟨k, 2, none⟩ = some (.slice none 0 0)
  c3 : w.cell? ⟨k, 3, none⟩ = some (.slice none 0 0)
  c4 : w.cell? ⟨k, 4, none⟩ = some mv
  free : ∀ j, w.frozen? ⟨k, j, none⟩ = false
  low : base ≤ k
  own : w.ownsRow base 23 1 sv L.length (L.map Kept.s)
  marks : w.ownsRow base 3 1 mv L.length (L.map Kept.t)
  a1 : sv.ownBlock ≠ some k
  a2 : mv.ownBlock ≠ some k
  a3 : ∀ b, sv.ownBlock = some b → mv.ownBlock ≠ some b
  it : ∀ x ∈ L, x.n ≤ 65536 ∧ x.m ≤ 100000 ∧ (x.a = none → x.n = 0) ∧ ∀ g, x.a = some g → KLie base w k sv mv g x.n x.m
  far : ∀ b, R b → b < w.heap.size ∧ ¬ BBlk k sv mv L b
theorem Bk.lt {R : Nat → Prop} {base : Nat} {w : World} {k : Nat} {sv mv : Value} {L : List Kept} (h : Bk R base w k sv mv L) {b : Nat} (hb : BBlk k sv mv L b) : base ≤ b ∧ b < w.heap.size := by
  rcases hb with rfl | e | e | ⟨x, hx, e⟩
  · exact ⟨h.low, cell_in h.c0⟩
  · exact own_lt h.own e
  · exact own_lt h.marks e
  · have := (h.it x hx).2.2.2 b e
    exact ⟨this.low, this.lt⟩
theorem KLie.keep {base : Nat} {w w' : World} {k : Nat} {sv mv : Value} {g n m : Nat} {R : Nat → Prop} (h : KLie base w k sv mv g n m) (f : Fr w w' R) (hR : R g) : KLie base w' k sv mv g n m :=
  ⟨h.low, h.nk, h.ns, h.nm, Nat.lt_of_lt_of_le h.lt f.size, fun i hi => f.cell (h.us i hi) hR⟩
theorem Bk.keep {R R' : Nat → Prop} {base : Nat} {w w' : World} {k : Nat} {sv mv : Value} {L : List Kept} (h : Bk R base w k sv mv L) (f : Fr w w' R') (hR : ∀ b, BBlk k sv mv L b → R' b) : Bk R base w' k sv mv L := by
  have hr : R' k := hR k (Or.inl rfl)
  refine ⟨f.cell h.c0 hr, f.cell h.c1 hr, f.cell h.c2 hr, f.cell h.c3 hr, f.cell h.c4 hr, fun j => (f.frz _).trans (h.free j), h.low, f.row h.own (fun x hx => hR x (Or.inr (Or.inl hx))), f.row h.marks (fun x hx => hR x (Or.inr (Or.inr (Or.inl hx)))), h.a1, h.a2, h.a3, fun x hx => ?_, fun b hb => ⟨Nat.lt_of_lt_of_le (h.far b hb).1 f.size, (h.far b hb).2⟩⟩
  obtain ⟨p1, p2, p3, p4⟩ := h.it x hx
  exact ⟨p1, p2, p3, fun g hg => (p4 g hg).keep f (hR g (Or.inr (Or.inr (Or.inr ⟨x, hx, hg⟩))))⟩
theorem Bk.next {R : Nat → Prop} {base : Nat} {w w' : World} {k : Nat} {sv mv : Value} {L : List Kept} (h : Bk R base w k sv mv L) (q : Q w w') : Bk R base w' k sv mv L := h.keep (q.fr fun _ => True) (fun _ _ => trivial)
/-- One block more is left alone. -/
theorem Bk.more {R : Nat → Prop} {base : Nat} {w : World} {k : Nat} {sv mv : Value} {L : List Kept} (h : Bk R base w k sv mv L) {R' : Nat → Prop} (hR : ∀ b, R' b → R b ∨ (b < w.heap.size ∧ ¬ BBlk k sv mv L b)) : Bk R' base w k sv mv L :=
  ⟨h.c0, h.c1, h.c2, h.c3, h.c4, h.free, h.low, h.own, h.marks, h.a1, h.a2, h.a3, h.it, fun b hb => (hR b hb).elim (h.far b) id⟩
/-- A list that was answered: none, or one in memory of its own. -/
def New (wp w : World) (v : Value) (n : Nat) : Prop := (v = .slice none 0 0 ∧ n = 0) ∨ ∃ g, v = .slice (some ⟨g, 0, none⟩) n n ∧ wp.heap.size ≤ g ∧ g < w.heap.size ∧ (∀ j, j < n → ∃ u, w.cell? ⟨g, j, none⟩ = some u) ∧ ∀ j, w.frozen? ⟨g, j, none⟩ = false
/-- The same by a number: the blocks from lo on are new. -/
def NewN (lo : Nat) (w : World) (v : Value) (n : Nat) : Prop := (v = .slice none 0 0 ∧ n = 0) ∨ ∃ g, v = .slice (some ⟨g, 0, none⟩) n n ∧ lo ≤ g ∧ g < w.heap.size ∧ (∀ j, j < n → ∃ u, w.cell? ⟨g, j, none⟩ = some u) ∧ ∀ j, w.frozen? ⟨g, j, none⟩ = false
/-- A list that is being marked. -/
structure Mrk (w wr : World) (g n m i : Nat) : Prop where
  fr : Fr w wr (fun b => b ≠ g)
  done : ∀ j, j < i → wr.cell? ⟨g, j, none⟩ = some (.int .u32 (mkv m j : Nat))
  room : ∀ j, j < n → ∃ u, wr.cell? ⟨g, j, none⟩ = some u
  free : ∀ j, wr.frozen? ⟨g, j, none⟩ = false
theorem Mrk.step {w wr : World} {g n m i : Nat} (h : Mrk w wr g n m i) (hi : i < n) {z : Nat} (hz : mkv m i = z) : Mrk w (wr.setCell ⟨g, i, none⟩ (.int .u32 (z : Nat))) g n m (i + 1) := by
  obtain ⟨u, hu⟩ := h.room i hi
  refine ⟨h.fr.set (fun h => h rfl) _, fun j hj => ?_, fun j hj => ?_, fun j => ?_⟩
  · by_cases e : j = i
    · subst e; rw [hz]; exact World.cell?_setCell_same _ _ _ hu
    · rw [World.cell?_setCell_other _ _ _ _ (by simp <;> omega)]; exact h.done j (by omega)
  · by_cases e : j = i
    · subst e; exact ⟨_, World.cell?_setCell_same _ _ _ hu⟩
    · rw [World.cell?_setCell_other _ _ _ _ (by simp <;> omega)]; exact h.room j hj
  · rw [World.frozen?_setCell]; exact h.free j
theorem New.next {wp w w' : World} {v : Value} {n : Nat} (h : New wp w v n) (q : Q w w') : New wp w' v n := by
  rcases h with h | ⟨g, h1, h2, h3, h4, h5⟩
  · exact Or.inl h
  · exact Or.inr ⟨g, h1, h2, Nat.lt_of_lt_of_le h3 q.1.size, fun j hj => by obtain ⟨u, hu⟩ := h4 j hj; exact ⟨u, q.cell hu⟩, fun j => (q.2 _).trans (h5 j)⟩
theorem NewN.next {lo : Nat} {w w' : World} {v : Value} {n : Nat} (h : NewN lo w v n) (q : Q w w') : NewN lo w' v n := by
  rcases h with h | ⟨g, h1, h2, h3, h4, h5⟩
  · exact Or.inl h
  · exact Or.inr ⟨g, h1, h2, Nat.lt_of_lt_of_le h3 q.1.size, fun j hj => by obtain ⟨u, hu⟩ := h4 j hj; exact ⟨u, q.cell hu⟩, fun j => (q.2 _).trans (h5 j)⟩
theorem New.base {w0 wp w : World} {v : Value} {n : Nat} (h : New wp w v n) (q : Q w0 wp) : New w0 w v n := by
  rcases h with h | ⟨g, h1, h2, h3, h4, h5⟩
  · exact Or.inl h
  · exact Or.inr ⟨g, h1, Nat.le_trans q.1.size h2, h3, h4, h5⟩
theorem Q.swap {w0 wp w wr : World} (a : Q w0 w) (b : Q wp w) (c : Q wp wr) (h : w0.heap.size ≤ wp.heap.size) (hs : w.heap.size ≤ wr.heap.size) : Q w0 wr :=
  ⟨⟨(c.1.os.trans b.1.os.symm).trans a.1.os, (c.1.tape.trans b.1.tape.symm).trans a.1.tape, (c.1.output.trans b.1.output.symm).trans a.1.output, Nat.le_trans a.1.size hs, fun x hx => ((c.1.block x (Nat.lt_of_lt_of_le hx h)).trans (b.1.block x (Nat.lt_of_lt_of_le hx h)).symm).trans (a.1.block x hx)⟩, fun x => ((c.2 x).trans (b.2 x).symm).trans (a.2 x)⟩
theorem Fr.swap {wp w wr : World} {R : Nat → Prop} (b : Q wp w) (c : Q wp wr) (hs : w.heap.size ≤ wr.heap.size) (hR : ∀ x, R x → x < wp.heap.size) : Fr w wr R :=
  ⟨c.1.os.trans b.1.os.symm, c.1.tape.trans b.1.tape.symm, c.1.output.trans b.1.output.symm, hs, fun x hx hr => (c.1.block x (hR x hr)).trans (b.1.block x (hR x hr)).symm, fun x => (c.2 x).trans (b.2 x).symm⟩
/-- What a Book leaves alone when it keeps a list: what it left alone, and all that is new but the list. -/
def Left (R : Nat → Prop) (lo : Nat) (w : World) (v : Value) (b : Nat) : Prop := R b ∨ (lo ≤ b ∧ b < w.heap.size ∧ v.ownBlock ≠ some b)
/-- A list that was marked. -/
structure Marked (lo : Nat) (wr : World) (x : Kept) : Prop where
  n : x.n ≤ 65536
  m : x.m ≤ 100000
  nil : x.a = none → x.n = 0
  at_ : ∀ g, x.a = some g → lo ≤ g ∧ g < wr.heap.size ∧ ∀ i, i < x.n → wr.cell? ⟨g, i, none⟩ = some (.int .u32 (mkv x.m i : Nat))
theorem Bk.push {R : Nat → Prop} {base lo : Nat} {w w' : World} {k : Nat} {sv mv : Value} {L : List Kept} (h : Bk R base w k sv mv L) {x : Kept} {g5 cap5 g6 cap6 : Nat}
    (f : Fr w w' (fun b => b ≠ k ∧ sv.ownBlock ≠ some b ∧ mv.ownBlock ≠ some b)) (hx : Marked lo w x) (hl : base ≤ lo) (hp : ∀ b, BBlk k sv mv L b → b < lo) (hR : ∀ b, R b → x.a ≠ some b)
    (c0 : w'.cell? ⟨k, 0, none⟩ = some (.slice (some ⟨g5, 0, none⟩) (L.length + 1) cap5)) (c4 : w'.cell? ⟨k, 4, none⟩ = some (.slice (some ⟨g6, 0, none⟩) (L.length + 1) cap6))
    (c1 : w'.cell? ⟨k, 1, none⟩ = some (.slice none 0 0)) (c2 : w'.cell? ⟨k, 2, none⟩ = some (.slice none 0 0)) (c3 : w'.cell? ⟨k, 3, none⟩ = some (.slice none 0 0))
    (own : w'.ownsRow base 23 1 (.slice (some ⟨g5, 0, none⟩) (L.length + 1) cap5) (L.length + 1) (L.map Kept.s ++ [x.s]))
    (marks : w'.ownsRow base 3 1 (.slice (some ⟨g6, 0, none⟩) (L.length + 1) cap6) (L.length + 1) (L.map Kept.t ++ [x.t]))
    (o5 : sv.ownBlock = some g5 ∨ w.heap.size ≤ g5) (o6 : mv.ownBlock = some g6 ∨ w.heap.size ≤ g6 ∧ g6 ≠ g5) :
    Bk R base w' k (.slice (some ⟨g5, 0, none⟩) (L.length + 1) cap5) (.slice (some ⟨g6, 0, none⟩) (L.length + 1) cap6) (L ++ [x]) := by
  have hk := cell_in h.c0
  have e5 : ∀ b, b < w.heap.size → sv.ownBlock ≠ some b → g5 ≠ b := fun b hb hne e => by
    rcases o5 with o | o
    · exact hne (by rw [o, e])
    · omega
  have e6 : ∀ b, b < w.heap.size → mv.ownBlock ≠ some b → g6 ≠ b := fun b hb hne e => by
    rcases o6 with o | ⟨o, _⟩
    · exact hne (by rw [o, e])
    · omega
  have n56 : g5 ≠ g6 := by
    rcases o6 with o | ⟨_, o⟩
    · rcases o5 with p | p
      · intro e; exact h.a3 g5 p (by rw [o, e])
      · have := (own_lt h.marks o).2; omega
    · exact fun e => o e.symm
  have ng : ∀ g, x.a = some g → ¬ BBlk k sv mv L g := fun g hg hb => by have := hp g hb; have := (hx.at_ g hg).1; omega
  refine ⟨c0, c1, c2, c3, c4, fun j => (f.frz _).trans (h.free j), h.low, by simpa using own, by simpa using marks, fun e => e5 k hk h.a1 (by injection e), fun e => e6 k hk h.a2 (by injection e), fun b h1 h2 => ?_, fun y hy => ?_, fun b hb => ⟨Nat.lt_of_lt_of_le (h.far b hb).1 f.size, fun hc => ?_⟩⟩
  · injection h1 with h1
    injection h2 with h2
    exact n56 (h1.trans h2.symm)
  · rw [List.mem_append] at hy
    rcases hy with hy | hy
    · obtain ⟨p1, p2, p3, p4⟩ := h.it y hy
      refine ⟨p1, p2, p3, fun g hg => ?_⟩
      have hl := p4 g hg
      exact ⟨hl.low, hl.nk, fun e => e5 g hl.lt hl.ns (by injection e), fun e => e6 g hl.lt hl.nm (by injection e), Nat.lt_of_lt_of_le hl.lt f.size, fun i hi => f.cell (hl.us i hi) ⟨hl.nk, hl.ns, hl.nm⟩⟩
    · rw [List.mem_singleton] at hy
      subst hy
      refine ⟨hx.n, hx.m, hx.nil, fun g hg => ?_⟩
      obtain ⟨p1, p2, p3⟩ := hx.at_ g hg
      have nb := ng g hg
      have b1 : g ≠ k := fun e => nb (Or.inl e)
      have b2 : sv.ownBlock ≠ some g := fun e => nb (Or.inr (Or.inl e))
      have b3 : mv.ownBlock ≠ some g := fun e => nb (Or.inr (Or.inr (Or.inl e)))
      exact ⟨Nat.le_trans hl p1, b1, fun e => e5 g p2 b2 (by injection e), fun e => e6 g p2 b3 (by injection e), Nat.lt_of_lt_of_le p2 f.size, fun i hi => f.cell (p3 i hi) ⟨b1, b2, b3⟩⟩
  · have hf := h.far b hb
    rcases hc with e | e | e | ⟨y, hy, e⟩
    · exact hf.2 (Or.inl e)
    · exact e5 b hf.1 (fun e' => hf.2 (Or.inr (Or.inl e'))) (by injection e)
    · exact e6 b hf.1 (fun e' => hf.2 (Or.inr (Or.inr (Or.inl e')))) (by injection e)
    · rw [List.mem_append] at hy
      rcases hy with hy | hy
      · exact hf.2 (Or.inr (Or.inr (Or.inr ⟨y, hy, e⟩)))
      · rw [List.mem_singleton] at hy
        subst hy
        exact hR b hb e
end Go.Proofs.Ytkgfohodahkmmaa
