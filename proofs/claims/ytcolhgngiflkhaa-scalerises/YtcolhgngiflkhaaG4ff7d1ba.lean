/- lineOf: a line of taps. -/
import Derived.Test.YtcolhgngiflkhaaG634f2659
namespace Go.Proofs.Ytcolhgngiflkhaa
open Go.RowKit
set_option linter.unusedVariables false
set_option linter.unusedSimpArgs false

/-- Taps of places, as they lie in memory from a block's head on. -/
def RowsV (B : Nat) (w : World) (g : Nat) (Ls : List (List (Int × Int))) : Prop := ∀ i L, Ls[i]? = some L → ∃ g1 g2, w.cell? ⟨g, i * 2, none⟩ = some (.slice (some ⟨g1, 0, none⟩) L.length L.length) ∧ w.cell? ⟨g, i * 2 + 1, none⟩ = some (.slice (some ⟨g2, 0, none⟩) L.length L.length) ∧ IRow w g1 (L.map Prod.fst) ∧ IRow w g2 (L.map Prod.snd) ∧ g1 ≠ g ∧ g2 ≠ g ∧ B ≤ g1 ∧ B ≤ g2
theorem RowsV.next {B : Nat} {w w' : World} {g : Nat} {Ls : List (List (Int × Int))} (h : RowsV B w g Ls) (q : Q w w') : RowsV B w' g Ls := fun i L hi => by
  obtain ⟨g1, g2, h1, h2, h3, h4, h5, h6, h7⟩ := h i L hi
  exact ⟨g1, g2, q.cell h1, q.cell h2, h3.next q, h4.next q, h5, h6, h7⟩
theorem RowsV.other {B : Nat} {w : World} {g : Nat} {Ls : List (List (Int × Int))} (h : RowsV B w g Ls) {p : Addr} (hp : p.block < B) (hg : p.block ≠ g) (v : Value) : RowsV B (w.setCell p v) g Ls := fun i L hi => by
  obtain ⟨g1, g2, h1, h2, h3, h4, h5, h6, h7, h8⟩ := h i L hi
  exact ⟨g1, g2, (World.cell?_setCell_other _ _ _ _ (fun e => hg (by rw [e]))).trans h1, (World.cell?_setCell_other _ _ _ _ (fun e => hg (by rw [e]))).trans h2, h3.other (by omega) v, h4.other (by omega) v, h5, h6, h7, h8⟩
/-- A line: as many places as there are lists of taps, and what tells them. -/
structure LnV (w : World) (v : Value) (Ls : List (List (Int × Int))) (b g : Nat) : Prop where
  v : v = .agg #[.int .i64 (Ls.length : Nat), .func (.func 30) #[] #[.pointer (some ⟨b, 0, none⟩)]]
  box : w.cell? ⟨b, 0, none⟩ = some (.slice (some ⟨g, 0, none⟩) Ls.length Ls.length)
  rows : RowsV 0 w g Ls
theorem LnV.next {w w' : World} {v : Value} {Ls : List (List (Int × Int))} {b g : Nat} (h : LnV w v Ls b g) (q : Q w w') : LnV w' v Ls b g := ⟨h.v, q.cell h.box, h.rows.next q⟩
def LnX (w : World) (v : Value) (Ls : List (List (Int × Int))) : Prop := ∃ b g, LnV w v Ls b g
theorem LnX.next {w w' : World} {v : Value} {Ls : List (List (Int × Int))} (h : LnX w v Ls) (q : Q w w') : LnX w' v Ls := by
  obtain ⟨b, g, h⟩ := h
  exact ⟨b, g, h.next q⟩
/-- A line whose blocks lie from lo on. -/
def LnI (lo : Nat) (w : World) (v : Value) (Ls : List (List (Int × Int))) : Prop := ∃ b g, LnV w v Ls b g ∧ lo ≤ b ∧ lo ≤ g ∧ RowsV lo w g Ls
theorem LnI.x {lo : Nat} {w : World} {v : Value} {Ls : List (List (Int × Int))} (h : LnI lo w v Ls) : LnX w v Ls := by
  obtain ⟨b, g, h, _⟩ := h
  exact ⟨b, g, h⟩
theorem LnI.next {lo : Nat} {w w' : World} {v : Value} {Ls : List (List (Int × Int))} (h : LnI lo w v Ls) (q : Q w w') : LnI lo w' v Ls := by
  obtain ⟨b, g, h, h1, h2, h3⟩ := h
  exact ⟨b, g, h.next q, h1, h2, h3.next q⟩
/-- A line whose blocks lie from lo to hi. -/
def LnJ (lo hi : Nat) (w : World) (v : Value) (Ls : List (List (Int × Int))) : Prop := ∃ b g, LnV w v Ls b g ∧ (lo ≤ b ∧ b < hi) ∧ (lo ≤ g ∧ g < hi) ∧ ∀ i L, Ls[i]? = some L → ∃ g1 g2, w.cell? ⟨g, i * 2, none⟩ = some (.slice (some ⟨g1, 0, none⟩) L.length L.length) ∧ w.cell? ⟨g, i * 2 + 1, none⟩ = some (.slice (some ⟨g2, 0, none⟩) L.length L.length) ∧ IRow w g1 (L.map Prod.fst) ∧ IRow w g2 (L.map Prod.snd) ∧ g1 ≠ g ∧ g2 ≠ g ∧ (lo ≤ g1 ∧ g1 < hi) ∧ (lo ≤ g2 ∧ g2 < hi)
theorem LnJ.next {lo hi : Nat} {w w' : World} {v : Value} {Ls : List (List (Int × Int))} (h : LnJ lo hi w v Ls) (q : Q w w') : LnJ lo hi w' v Ls := by
  obtain ⟨b, g, h, h1, h2, h3⟩ := h
  refine ⟨b, g, h.next q, h1, h2, fun i L hi => ?_⟩
  obtain ⟨g1, g2, a1, a2, a3, a4, a5⟩ := h3 i L hi
  exact ⟨g1, g2, q.cell a1, q.cell a2, a3.next q, a4.next q, a5⟩
theorem LnJ.x {lo hi : Nat} {w : World} {v : Value} {Ls : List (List (Int × Int))} (h : LnJ lo hi w v Ls) : LnX w v Ls := by
  obtain ⟨b, g, h, _⟩ := h
  exact ⟨b, g, h⟩
/-- Blocks that lie apart from a line's may be written. -/
theorem LnJ.other {lo hi : Nat} {w : World} {v : Value} {Ls : List (List (Int × Int))} (h : LnJ lo hi w v Ls) {p : Addr} (hp : p.block < lo ∨ hi ≤ p.block) (u : Value) : LnJ lo hi (w.setCell p u) v Ls := by
  obtain ⟨b, g, h, h1, h2, h3⟩ := h
  have keep : ∀ i L, Ls[i]? = some L → ∃ g1 g2, (w.setCell p u).cell? ⟨g, i * 2, none⟩ = some (.slice (some ⟨g1, 0, none⟩) L.length L.length) ∧ (w.setCell p u).cell? ⟨g, i * 2 + 1, none⟩ = some (.slice (some ⟨g2, 0, none⟩) L.length L.length) ∧ IRow (w.setCell p u) g1 (L.map Prod.fst) ∧ IRow (w.setCell p u) g2 (L.map Prod.snd) ∧ g1 ≠ g ∧ g2 ≠ g ∧ (lo ≤ g1 ∧ g1 < hi) ∧ (lo ≤ g2 ∧ g2 < hi) := fun i L hi => by
    obtain ⟨g1, g2, a1, a2, a3, a4, a5, a6, a7, a8⟩ := h3 i L hi
    exact ⟨g1, g2, (World.cell?_setCell_other _ _ _ _ (fun e => by rw [e] at hp; simp only at hp; omega)).trans a1, (World.cell?_setCell_other _ _ _ _ (fun e => by rw [e] at hp; simp only at hp; omega)).trans a2, a3.other (by omega) u, a4.other (by omega) u, a5, a6, a7, a8⟩
  refine ⟨b, g, ⟨h.v, (World.cell?_setCell_other _ _ _ _ (fun e => by rw [e] at hp; simp only at hp; omega)).trans h.box, fun i L hi => ?_⟩, h1, h2, keep⟩
  obtain ⟨g1, g2, a1, a2, a3, a4, a5, a6, _⟩ := keep i L hi
  exact ⟨g1, g2, a1, a2, a3, a4, a5, a6, Nat.zero_le _, Nat.zero_le _⟩
theorem LnI.j {lo : Nat} {w : World} {v : Value} {Ls : List (List (Int × Int))} (h : LnI lo w v Ls) (h1 : 1 ≤ Ls.length) (hL : ∀ L ∈ Ls, 1 ≤ L.length) : LnJ lo w.heap.size w v Ls := by
  obtain ⟨b, g, h, l1, l2, r⟩ := h
  have hg : g < w.heap.size := by
    obtain ⟨g1, g2, a1, _⟩ := r 0 _ (List.getElem?_eq_getElem (by omega))
    exact World.block_lt_of_cell? _ _ a1
  refine ⟨b, g, h, ⟨l1, World.block_lt_of_cell? _ _ h.box⟩, ⟨l2, hg⟩, fun i L hi => ?_⟩
  obtain ⟨g1, g2, a1, a2, a3, a4, a5, a6, a7, a8⟩ := r i L hi
  have h1 := hL L (List.mem_of_getElem? hi)
  refine ⟨g1, g2, a1, a2, a3, a4, a5, a6, ⟨a7, ?_⟩, ⟨a8, ?_⟩⟩
  · exact World.block_lt_of_cell? _ _ (a3.cell 0 _ (List.getElem?_eq_getElem (by rw [List.length_map]; omega)))
  · exact World.block_lt_of_cell? _ _ (a4.cell 0 _ (List.getElem?_eq_getElem (by rw [List.length_map]; omega)))
theorem blInfo : ∃ i, Try.prog.info? 64 = some i ∧ i.size = 2 ∧ i.bytes = 48 ∧ i.zero = some (.agg #[.slice none 0 0, .slice none 0 0]) := kinfo_of (by kernel_rfl)
theorem make_bl (n : Nat) (hn : n ≤ 1048576) : ∃ M : Array Value, (∀ w : World, (Instr.makeSlice 69 (.int .i64 (n : Int)) (.int .i64 (n : Int))).run Try.prog w = .ok (.slice (some ⟨w.heap.size, 0, none⟩) n n) (w.alloc (.cells M 64))) ∧ M.size = n * 2 := by
  obtain ⟨i, i1, i2, i3, i4⟩ := blInfo
  refine ⟨madeCells (Value.agg #[.slice none 0 0, .slice none 0 0]).cells (n * 2), fun w => ?_, by unfold madeCells; simp⟩
  have := run_make (P := Try.prog) w 69 64 i _ Try.underlying69 i1 i4 .i64 .i64 n n (by omega) (by omega) (by rw [i3]; omega) (by omega)
  rw [i2] at this
  simp only [Int.toNat_natCast] at this
  exact this
/-- What lineOf holds behind i places. -/
structure Ln3 (w wr : World) (Ls : List (List (Int × Int))) (n g b i : Nat) : Prop where
  q : Q w wr
  rows : RowsV w.heap.size wr g (Ls.take i)
  box : wr.cell? ⟨b, 0, none⟩ = some (.slice (some ⟨g, 0, none⟩) n n)
  room : ∀ j, j < n * 2 → ∃ v, wr.cell? ⟨g, j, none⟩ = some v
  free : ∀ j, wr.frozen? ⟨g, j, none⟩ = false
section
variable {ρ : Operand → Value} {x : World} {d : Option Tmp} {ty : TypeId} {ps : String} {af : Array Edge} {gd : Option (Nat × Bool)}
theorem run_ixb {j k gg Lw cap i : Nat} (h : ρ (.tmp j) = .slice (some ⟨gg, 0, none⟩) Lw cap) (h' : ρ (.tmp k) = .int .i64 (i : Nat)) (hi : i < Lw) : (execOp ρ { dst := d, op := .indexAddr 69 (.tmp j) (.tmp k), type := ty, pos := ps, after := af, guard := gd }).run Try.prog x = .ok (.value (.pointer (some ⟨gg, i * 2, none⟩))) x := by
  simp [execOp, h, h', go_sem, hi]
theorem run_stb {j k : Nat} {B i l1 l2 k1 k2 : Nat} {a1 a2 : Option Addr} {a b : Value} (h : ρ (.tmp j) = .pointer (some ⟨B, i, none⟩)) (h' : ρ (.tmp k) = .agg #[.slice a1 l1 k1, .slice a2 l2 k2]) (c : x.cell? ⟨B, i, none⟩ = some a) (c' : x.cell? ⟨B, i + 1, none⟩ = some b) (f : ∀ j, x.frozen? ⟨B, j, none⟩ = false) : (execOp ρ { dst := none, op := .store 64 (.tmp j) (.tmp k), type := ty, pos := ps, after := af, guard := gd }).run Try.prog x = .ok .skip ((x.setCell ⟨B, i, none⟩ (.slice a1 l1 k1)).setCell ⟨B, i + 1, none⟩ (.slice a2 l2 k2)) := by
  simp [execOp, h, h', go_sem, c, c', f]
end
theorem Ln3.step {w wr x : World} {Ls : List (List (Int × Int))} {n g b j g1 g2 : Nat} {L : List (Int × Int)} (h : Ln3 w wr Ls n g b j) (q : Q wr x) (hg : w.heap.size ≤ g) (hgb : g ≠ b) (hj : j < n) (hL : Ls[j]? = some L) (h1 : IRow x g1 (L.map Prod.fst)) (h2 : IRow x g2 (L.map Prod.snd)) (n1 : g1 ≠ g) (n2 : g2 ≠ g) (m1 : w.heap.size ≤ g1) (m2 : w.heap.size ≤ g2) :
    Ln3 w ((x.setCell ⟨g, j * 2, none⟩ (.slice (some ⟨g1, 0, none⟩) L.length L.length)).setCell ⟨g, j * 2 + 1, none⟩ (.slice (some ⟨g2, 0, none⟩) L.length L.length)) Ls n g b (j + 1) := by
  have keep : ∀ (gg : Nat) (zs : List Int), gg ≠ g → IRow x gg zs → IRow ((x.setCell ⟨g, j * 2, none⟩ (.slice (some ⟨g1, 0, none⟩) L.length L.length)).setCell ⟨g, j * 2 + 1, none⟩ (.slice (some ⟨g2, 0, none⟩) L.length L.length)) gg zs := fun gg zs hne hr => (hr.other (p := ⟨g, j * 2, none⟩) (fun e => hne e.symm) _).other (p := ⟨g, j * 2 + 1, none⟩) (fun e => hne e.symm) _
  obtain ⟨u0, c0⟩ := h.room (j * 2) (by omega)
  obtain ⟨u1, c1⟩ := h.room (j * 2 + 1) (by omega)
  have c0 := q.cell c0
  have c1 := q.cell c1
  have a0 := World.cell?_setCell_same x ⟨g, j * 2, none⟩ (.slice (some ⟨g1, 0, none⟩) L.length L.length) c0
  have c1' : (x.setCell ⟨g, j * 2, none⟩ (.slice (some ⟨g1, 0, none⟩) L.length L.length)).cell? ⟨g, j * 2 + 1, none⟩ = some u1 := (World.cell?_setCell_other _ _ _ _ (fun e => by injection e with _ e; omega)).trans c1
  have a1 := World.cell?_setCell_same _ ⟨g, j * 2 + 1, none⟩ (.slice (some ⟨g2, 0, none⟩) L.length L.length) c1'
  have a0' := (World.cell?_setCell_other (x.setCell ⟨g, j * 2, none⟩ (.slice (some ⟨g1, 0, none⟩) L.length L.length)) ⟨g, j * 2 + 1, none⟩ ⟨g, j * 2, none⟩ (.slice (some ⟨g2, 0, none⟩) L.length L.length) (fun e => by injection e with _ e; omega)).trans a0
  refine ⟨((h.q.trans q).set hg _).set hg _, fun i L' hi => ?_, ?_, fun k hk => ?_, fun k => by rw [World.frozen?_setCell, World.frozen?_setCell, q.2]; exact h.free k⟩
  · rw [List.take_add_one, List.getElem?_append] at hi
    split at hi
    · rename_i hlt
      obtain ⟨k1, k2, e1, e2, e3, e4, e5, e6, e7⟩ := h.rows i L' hi
      have hij : i < j := by rw [List.length_take] at hlt; omega
      refine ⟨k1, k2, ?_, ?_, keep k1 _ e5 (e3.next q), keep k2 _ e6 (e4.next q), e5, e6, e7⟩
      · rw [World.cell?_setCell_other _ _ _ _ (fun e => by injection e with _ e; omega), World.cell?_setCell_other _ _ _ _ (fun e => by injection e with _ e; omega)]; exact q.cell e1
      · rw [World.cell?_setCell_other _ _ _ _ (fun e => by injection e with _ e; omega), World.cell?_setCell_other _ _ _ _ (fun e => by injection e with _ e; omega)]; exact q.cell e2
    · rename_i hge
      have hjl : j < Ls.length := (List.getElem?_eq_some_iff.1 hL).1
      have hlen : (Ls.take j).length = j := by rw [List.length_take]; omega
      rw [hlen, hL] at hi
      simp only [Option.toList_some] at hi
      have hi0 : i - j = 0 := by
        rcases Nat.eq_zero_or_pos (i - j) with c | c
        · exact c
        · rw [List.getElem?_eq_none (by simp; omega)] at hi; cases hi
      rw [hi0] at hi
      simp at hi
      subst hi
      have hij : i = j := by rw [hlen] at hge; omega
      subst hij
      exact ⟨g1, g2, a0', a1, keep g1 _ n1 h1, keep g2 _ n2 h2, n1, n2, m1, m2⟩
  · rw [World.cell?_setCell_other _ _ _ _ (fun e => hgb (by injection e)), World.cell?_setCell_other _ _ _ _ (fun e => hgb (by injection e))]; exact q.cell h.box
  · by_cases e1 : k = j * 2 + 1
    · subst e1; exact ⟨_, a1⟩
    · by_cases e2 : k = j * 2
      · subst e2; exact ⟨_, a0'⟩
      · obtain ⟨u, hu⟩ := h.room k hk
        exact ⟨u, by rw [World.cell?_setCell_other _ _ _ _ (fun e => by injection e with _ e; omega), World.cell?_setCell_other _ _ _ _ (fun e => by injection e with _ e; omega)]; exact q.cell hu⟩
set_option maxHeartbeats 4000000 in
set_option maxRecDepth 100000 in
theorem lineOf_any (kind F T : Int) (lo n : Nat) (w : World) (hn : n ≤ 100000) (hlo : lo ≤ 100000) :
    Calls Try.prog 21 #[.int .i64 kind, .int .i64 F, .int .i64 T, .int .i64 (lo : Int), .int .i64 ((lo + n : Nat) : Int)] w fun e w' => ∃ v, e = .returned v ∧ LnI w.heap.size w' v ((List.range n).map fun (k : Nat) => tpA kind F T ((lo + k : Nat) : Int)) ∧ Q w w' := by
  obtain ⟨M, hmk, hM⟩ := make_bl n (by omega)
  obtain ⟨Ls, hLs⟩ : ∃ Ls, (List.range n).map (fun (k : Nat) => tpA kind F T ((lo + k : Nat) : Int)) = Ls := ⟨_, rfl⟩
  have HL : Hid (Ls.length = n ∧ ∀ k, k < n → Ls[k]? = some (tpA kind F T ((lo + k : Nat) : Int))) := by
    rw [← hLs]
    exact ⟨by simp, fun k hk => by rw [List.getElem?_map, List.getElem?_range hk]; rfl⟩
  rw [hLs]
  have HC : Hid (∀ (i : Int) (W : World), Calls Try.prog 29 #[.int .i64 kind, .int .i64 F, .int .i64 T, .int .i64 i] W fun e w' => ∃ v, e = .returned v ∧ BlW W w' v (tpA kind F T i) ∧ Q W w') := fun i W => blendOf_any kind F T i W
  obtain ⟨hi, ehi⟩ : ∃ hi : Int, ((lo + n : Nat) : Int) = hi := ⟨_, rfl⟩
  have e1 : hi - (lo : Int) = (n : Int) := by omega
  have b1 : hi ≤ 200000 := by omega
  have b0 : 0 ≤ hi := by omega
  rw [ehi]
  clear hLs ehi
  go_enter Try.func21, Try.ntmps21
  go_wp2_with fail
  obtain ⟨w0, hw0⟩ : ∃ w0, w.alloc (.cells #[.int .i64 0, .nilFunc] 55) = w0 := ⟨_, rfl⟩
  have HQ0 : Hid (Q w w0) := by rw [← hw0]; exact (Q.refl w).cells _ _
  have HS0 : Hid (w0.heap.size = w.heap.size + 1) := by show w0.heap.size = _; rw [← hw0]; simp
  have HR0 : Hid (w0.cell? ⟨w.heap.size, 0, none⟩ = some (.int .i64 0) ∧ w0.cell? ⟨w.heap.size, 1, none⟩ = some .nilFunc ∧ ∀ j, w0.frozen? ⟨w.heap.size, j, none⟩ = false) := by
    rw [← hw0]
    exact ⟨by simp [go_sem], by simp [go_sem], fun j => by simp [go_sem]⟩
  have H0 : Hid (Ln3 w0 ((w0.alloc (.cells M 64)).alloc (.cells #[.slice (some ⟨w.heap.size + 1, 0, none⟩) n n] 69)) Ls n (w.heap.size + 1) (w.heap.size + 1 + 1) 0) := by
    have hb : (w0.alloc (.cells M 64)).heap[w0.heap.size]? = some (.cells M 64 (0, 0)) := heap_alloc_new w0 _
    have q1 : Q (w0.alloc (.cells M 64)) ((w0.alloc (.cells M 64)).alloc (.cells #[.slice (some ⟨w.heap.size + 1, 0, none⟩) n n] 69)) := (Q.refl _).cells _ _
    rw [HS0.out] at hb
    refine ⟨((Q.refl w0).cells _ _).trans q1, fun i L hi => by simp at hi, ?_, fun j hj => ⟨M[j]'(by omega), ?_⟩, fun j => ?_⟩
    · have e : (w0.alloc (.cells M 64)).heap.size = w.heap.size + 1 + 1 := by simp [HS0.out]
      rw [← e]
      simp [go_sem]
    · refine q1.cell ?_
      rw [cell_of_row _ _ j _ 64 (0, 0) hb, Array.getElem?_eq_getElem (by omega)]
    · rw [q1.2]
      unfold World.frozen?; rw [hb]; simp
  rw [hw0]
  clear hw0 hmk hM
  generalize (w0.alloc (.cells M 64)).alloc (.cells #[.slice (some ⟨w.heap.size + 1, 0, none⟩) n n] 69) = w3 at H0 ⊢
  go_loopg [13, 20] n (fun gh s13 s20 wr => ∃ j : Nat, s20 = .int .i64 (j : Int) ∧ j ≤ n ∧ gh = n - j ∧ Hid (Ln3 w0 wr Ls n (w.heap.size + 1) (w.heap.size + 1 + 1) j))
  case atStart => exact ⟨0, rfl, Nat.zero_le _, rfl, H0⟩
  case round =>
    clear H0
    obtain ⟨j, rfl, hj, rfl, HI⟩ := hrel
    by_cases hlt : j < n
    · have hltz : (j : Int) < (n : Int) := by omega
      obtain ⟨k, hk⟩ : ∃ k : Int, (lo : Int) + (j : Int) = k := ⟨_, rfl⟩
      have wk : IntKind.i64.wrap k = k := by rw [IntKind.wrap_i64]; omega
      have HCj : Hid (∀ W : World, Calls Try.prog 29 #[.int .i64 kind, .int .i64 F, .int .i64 T, .int .i64 k] W fun e w' => ∃ v, e = .returned v ∧ BlW W w' v (tpA kind F T k) ∧ Q W w') := fun W => HC.out k W
      have hLj : Ls[j]? = some (tpA kind F T k) := by rw [HL.out.2 j hlt, ← hk]; congr 2
      obtain ⟨L, hLe⟩ : ∃ L, tpA kind F T k = L := ⟨_, rfl⟩
      rw [hLe] at HCj hLj
      have HLj : Hid (Ls[j]? = some L) := hLj
      have bx := HI.out.box
      have n0 := qw_some wr
      have f0 := qw_cell bx
      clear hLj hLe
      go_wp2_with fail
      refine wp_region_mk [0, 1, 2, 3, 4, 5, 6, 7] [[8, 9, 10]] 3 _ (by kernel_rfl) (by kernel_rfl) rfl (by kernel_rfl) ?_
      simp only [List.filterMap_cons, List.filterMap_nil, List.getElem?_cons_zero, List.getElem?_cons_succ]
      repeat (first | go_big_quiet_step (fail) | quiet_step (fail))
      refine wpQuiet_nil ?_
      intro x5 hx5
      clear f0 n0
      refine treeA_call 8 (by kernel_rfl) rfl (run_fn 29 #[.tmp 25, .tmp 26, .tmp 27, .tmp 30] _ rfl (fun _ _ => rfl) (vs := #[.int .i64 kind, .int .i64 F, .int .i64 T, .int .i64 k]) (by kernel_rfl)) (G := fun v x' => BlW x5 x' v L ∧ Q x5 x') ((HCj.out _).mono fun e x' ⟨v, h1, h2, h3⟩ => ⟨v, h1, h2, h3⟩) ?_
      rintro v x6 ⟨⟨g1, g2, rfl, l1, l2, r1, r2⟩, q6⟩
      have q56 : Q wr x6 := hx5.trans q6
      have hgl : w.heap.size + 1 < wr.heap.size := by
        obtain ⟨u, hu⟩ := HI.out.room (j * 2) (by omega)
        exact World.block_lt_of_cell? _ _ hu
      have hsz5 := hx5.1.size
      obtain ⟨u0, c0⟩ := HI.out.room (j * 2) (by omega)
      obtain ⟨u1, c1⟩ := HI.out.room (j * 2 + 1) (by omega)
      have c0 := q56.cell c0
      have c1 := q56.cell c1
      have fr : ∀ j, x6.frozen? ⟨w.heap.size + 1, j, none⟩ = false := fun j => by rw [q56.2]; exact HI.out.free j
      have HI2 : Hid _ := HI.out.step q56 (by have := HS0.out; omega) (by omega) hlt HLj.out r1 r2 (by omega) (by omega) (by have := HI.out.q.1.size; omega) (by have := HI.out.q.1.size; omega)
      refine ⟨q56, ?_⟩
      refine treeA_run 9 (by kernel_rfl) rfl (v := .pointer (some ⟨w.heap.size + 1, j * 2, none⟩)) (x' := x6) (run_ixb (Lw := n) (cap := n) (by kernel_rfl) (by kernel_rfl) hlt) (Or.inr q56) ?_
      refine treeA_skip 10 (by kernel_rfl) rfl (x' := (x6.setCell ⟨w.heap.size + 1, j * 2, none⟩ (.slice (some ⟨g1, 0, none⟩) L.length L.length)).setCell ⟨w.heap.size + 1, j * 2 + 1, none⟩ (.slice (some ⟨g2, 0, none⟩) L.length L.length)) (run_stb (i := j * 2) (by kernel_rfl) (by kernel_rfl) c0 c1 fr) (Or.inl (by kernel_rfl)) ?_
      refine tree_nil ?_
      clear r1 r2 l1 l2 c0 c1 fr q6 hx5 HI q56 bx
      generalize (x6.setCell ⟨w.heap.size + 1, j * 2, none⟩ (.slice (some ⟨g1, 0, none⟩) L.length L.length)).setCell ⟨w.heap.size + 1, j * 2 + 1, none⟩ (.slice (some ⟨g2, 0, none⟩) L.length L.length) = w9 at HI2 ⊢
      go_wp2_with fail
      go_roundg (n - (j + 1))
      case measure => go_light; omega
      case rel => go_light; exact ⟨j + 1, by simp, by omega, rfl, HI2⟩
    · have hge : ¬ (j : Int) < (n : Int) := by omega
      obtain rfl : j = n := by omega
      have o0 := HI.out.q.cell HR0.out.1
      have o1 := HI.out.q.cell HR0.out.2.1
      have fo : ∀ k, wr.frozen? ⟨w.heap.size, k, none⟩ = false := fun k => by rw [HI.out.q.2]; exact HR0.out.2.2 k
      have fo0 := fo 0
      have fo1 := fo 1
      obtain ⟨fv, hfv⟩ : ∃ fv : Value, Value.func (.func 30) #[] #[.pointer (some ⟨w.heap.size + 1 + 1, 0, none⟩)] = fv := ⟨_, rfl⟩
      have HW : Hid (LnI w.heap.size ((wr.setCell ⟨w.heap.size, 0, none⟩ (.int .i64 (j : Int))).setCell ⟨w.heap.size, 1, none⟩ (.func (.func 30) #[] #[.pointer (some ⟨w.heap.size + 1 + 1, 0, none⟩)])) (.agg #[.int .i64 (j : Int), .func (.func 30) #[] #[.pointer (some ⟨w.heap.size + 1 + 1, 0, none⟩)]]) Ls) := by
        have hl := HL.out.1
        have hs := HS0.out
        have r := (HI.out.rows.other (p := ⟨w.heap.size, 0, none⟩) (by show w.heap.size < _; omega) (by show w.heap.size ≠ _; omega) (.int .i64 (j : Int))).other (p := ⟨w.heap.size, 1, none⟩) (by show w.heap.size < _; omega) (by show w.heap.size ≠ _; omega) (.func (.func 30) #[] #[.pointer (some ⟨w.heap.size + 1 + 1, 0, none⟩)])
        rw [List.take_of_length_le (by omega)] at r
        refine ⟨w.heap.size + 1 + 1, w.heap.size + 1, ⟨by rw [hl], ?_, fun i L hi => ?_⟩, by omega, by omega, fun i L hi => ?_⟩
        · rw [hl, World.cell?_setCell_other _ _ _ _ (fun e => by injection e with e; omega), World.cell?_setCell_other _ _ _ _ (fun e => by injection e with e; omega)]; exact HI.out.box
        · obtain ⟨g1, g2, h1, h2, h3, h4, h5, h6, _⟩ := r i L hi
          exact ⟨g1, g2, h1, h2, h3, h4, h5, h6, Nat.zero_le _, Nat.zero_le _⟩
        · obtain ⟨g1, g2, h1, h2, h3, h4, h5, h6, h7, h8⟩ := r i L hi
          exact ⟨g1, g2, h1, h2, h3, h4, h5, h6, by omega, by omega⟩
      have HQ : Hid (Q w ((wr.setCell ⟨w.heap.size, 0, none⟩ (.int .i64 (j : Int))).setCell ⟨w.heap.size, 1, none⟩ (.func (.func 30) #[] #[.pointer (some ⟨w.heap.size + 1 + 1, 0, none⟩)]))) := ((HQ0.out.trans HI.out.q).set (Nat.le_refl _) _).set (Nat.le_refl _) _
      have v0 : ((wr.setCell ⟨w.heap.size, 0, none⟩ (.int .i64 (j : Int))).setCell ⟨w.heap.size, 1, none⟩ (.func (.func 30) #[] #[.pointer (some ⟨w.heap.size + 1 + 1, 0, none⟩)])).cell? ⟨w.heap.size, 0, none⟩ = some (.int .i64 (j : Int)) := (World.cell?_setCell_other _ _ _ _ (fun e => by injection e with _ e; cases e)).trans (World.cell?_setCell_same _ _ _ o0)
      have v1 : ((wr.setCell ⟨w.heap.size, 0, none⟩ (.int .i64 (j : Int))).setCell ⟨w.heap.size, 1, none⟩ (.func (.func 30) #[] #[.pointer (some ⟨w.heap.size + 1 + 1, 0, none⟩)])).cell? ⟨w.heap.size, 1, none⟩ = some (.func (.func 30) #[] #[.pointer (some ⟨w.heap.size + 1 + 1, 0, none⟩)]) := World.cell?_setCell_same _ _ _ ((World.cell?_setCell_other _ _ _ _ (fun e => by injection e with _ e; cases e)).trans o1)
      clear hfv fo HI
      go_wp2_with fail
      generalize (wr.setCell ⟨w.heap.size, 0, none⟩ (.int .i64 (j : Int))).setCell ⟨w.heap.size, 1, none⟩ (.func (.func 30) #[] #[.pointer (some ⟨w.heap.size + 1 + 1, 0, none⟩)]) = w9 at HW HQ v0 v1 ⊢
      exact bodyPost_ret (v := .agg #[.int .i64 (j : Int), .func (.func 30) #[] #[.pointer (some ⟨w.heap.size + 1 + 1, 0, none⟩)]]) (by simp [results, Try.results21, go_sem, v0, v1]) rfl ⟨_, rfl, HW.out, HQ.out⟩
end Go.Proofs.Ytcolhgngiflkhaa
