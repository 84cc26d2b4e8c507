/- piece, plain: how far the column and the piece are written. -/
import Derived.Test.YtnlphjekillciaaG2f46a599
import Derived.Test.YtnlphjekillciaaG271092b8
namespace Go.Proofs.Ytnlphjekillciaa
open Go.RowKit
set_option linter.unusedVariables false
set_option linter.unusedSimpArgs false

/-- What stands between: a column of the new width. -/
def colV (A : List (Int × Int)) (S : List Nat) (pa y : Nat) : Nat := smpV A (S.drop (y * pa))
/-- The sample at a place of the piece. -/
def pieceV (A D : LLs) (S : List Nat) (pa pb x y : Nat) : Nat := smpV (D.getD y []) (tabN pb (colV (A.getD x []) S pa))
/-- How far the column is written. -/
def btwV (A : LLs) (S : List Nat) (pa f e k i y : Nat) : Nat := if f ≤ y ∧ y < f + i then colV (A.getD k []) S pa y else if k = 0 then 0 else if f ≤ y ∧ y < e then colV (A.getD (k - 1) []) S pa y else 0
/-- How far the piece is written. -/
def tolV (A D : LLs) (S : List Nat) (pa pb nx k j i : Nat) : Nat := if i % nx < k ∨ (i % nx = k ∧ i / nx < j) then pieceV A D S pa pb (i % nx) (i / nx) else 0
theorem smpV_congr {L : List (Int × Int)} {S S' : List Nat} (h : ∀ e ∈ L, S.getD e.1.toNat 0 = S'.getD e.1.toNat 0) : smpV L S = smpV L S' := by
  unfold smpV
  have : pickV L S = pickV L S' := List.map_congr_left h
  rw [this]
theorem tabN_getD {n : Nat} {f : Nat → Nat} {i : Nat} (h : i < n) : (tabN n f).getD i 0 = f i := by rw [List.getD_eq_getElem?_getD, tabN_at h]; rfl
theorem btw_start (A : LLs) (S : List Nat) (pa f e y : Nat) : btwV A S pa f e 0 0 y = 0 := by unfold btwV; rw [if_neg (by omega), if_pos rfl]
theorem btw_new {A : LLs} {S : List Nat} {pa f e k i : Nat} : colV (A.getD k []) S pa (f + i) = btwV A S pa f e k (i + 1) (f + i) := by unfold btwV; rw [if_pos (by omega)]
theorem btw_old {A : LLs} {S : List Nat} {pa f e k i y : Nat} (h : y ≠ f + i) : btwV A S pa f e k (i + 1) y = btwV A S pa f e k i y := by
  unfold btwV
  by_cases c : f ≤ y ∧ y < f + i
  · rw [if_pos c, if_pos (by omega)]
  · rw [if_neg c, if_neg (by omega)]
theorem btw_end {A : LLs} {S : List Nat} {pa f e k d y : Nat} (hd : f + d = e) : btwV A S pa f e k d y = btwV A S pa f e (k + 1) 0 y := by
  unfold btwV
  rw [hd, if_neg (show ¬ (f ≤ y ∧ y < f + 0) by omega), if_neg (show ¬ k + 1 = 0 by omega), show k + 1 - 1 = k by omega]
  by_cases c : f ≤ y ∧ y < e
  · rw [if_pos c, if_pos c]
  · rw [if_neg c, if_neg c]
    split <;> rfl
theorem btw_in {A : LLs} {S : List Nat} {pa f e k d y : Nat} (hd : f + d = e) (h1 : f ≤ y) (h2 : y < e) : btwV A S pa f e k d y = colV (A.getD k []) S pa y := by unfold btwV; rw [if_pos (by omega)]
theorem tol_start (A D : LLs) (S : List Nat) (pa pb nx i : Nat) : tolV A D S pa pb nx 0 0 i = 0 := by
  unfold tolV
  rw [if_neg (fun h => by rcases h with h | ⟨_, h⟩ <;> exact absurd h (Nat.not_lt_zero _))]
theorem tol_new {A D : LLs} {S : List Nat} {pa pb nx k j : Nat} (hk : k < nx) : pieceV A D S pa pb k j = tolV A D S pa pb nx k (j + 1) (j * nx + k) := by
  unfold tolV
  rw [place_mod j hk, place_div j hk, if_pos (by omega)]
theorem tol_old {A D : LLs} {S : List Nat} {pa pb nx k j i : Nat} (hk : k < nx) (h : i ≠ j * nx + k) : tolV A D S pa pb nx k (j + 1) i = tolV A D S pa pb nx k j i := by
  unfold tolV
  have hdm : nx * (i / nx) + i % nx = i := Nat.div_add_mod i nx
  by_cases c : i % nx < k ∨ (i % nx = k ∧ i / nx < j)
  · rw [if_pos c, if_pos (by omega)]
  · rw [if_neg c, if_neg (fun c' => ?_)]
    have h1 : i % nx = k := by omega
    have h2 : i / nx = j := by omega
    rw [h1, h2, Nat.mul_comm] at hdm
    omega
theorem tol_end {A D : LLs} {S : List Nat} {pa pb nx ny k i : Nat} (hi : i < nx * ny) : tolV A D S pa pb nx k ny i = tolV A D S pa pb nx (k + 1) 0 i := by
  unfold tolV
  obtain ⟨_, _, h2⟩ := row_lt hi
  generalize pieceV A D S pa pb (i % nx) (i / nx) = z
  generalize i % nx = a at *
  generalize i / nx = b at *
  by_cases c : a < k ∨ (a = k ∧ b < ny)
  · rw [if_pos c, if_pos (by omega)]
  · rw [if_neg c, if_neg (by omega)]
theorem tol_all {A D : LLs} {S : List Nat} {pa pb nx ny i : Nat} (hi : i < nx * ny) : tolV A D S pa pb nx nx 0 i = pieceV A D S pa pb (i % nx) (i / nx) := by
  unfold tolV
  obtain ⟨_, h1, _⟩ := row_lt hi
  rw [if_pos (Or.inl h1)]
/-- What is told of a column is what is told of all of it. -/
theorem piece_at {A D : LLs} {S : List Nat} {pa pb f e d k j : Nat} {L : List (Int × Int)} (hd : f + d = e) (he : e ≤ pb) (hL : D[j]? = some L) (hI : ∀ p ∈ L, (f : Int) ≤ p.1 ∧ p.1 < (e : Int)) : smpV L (tabN pb (btwV A S pa f e k d)) = pieceV A D S pa pb k j := by
  unfold pieceV
  have hg : D.getD j [] = L := by rw [List.getD_eq_getElem?_getD, hL]; rfl
  rw [hg]
  refine smpV_congr fun p hp => ?_
  obtain ⟨h1, h2⟩ := hI p hp
  have hp1 : p.1.toNat < pb := by omega
  rw [tabN_getD hp1, tabN_getD hp1, btw_in hd (by omega) (by omega)]
structure Pcs (w2 wr : World) (gbt gt g16 nx ny n pb : Nat) (fb ft : Nat → Nat) : Prop where
  q : Q w2 wr
  bt : URow wr gbt (tabN pb fb)
  tl : URow wr gt (tabN n ft)
  c0 : wr.cell? ⟨g16, 0, none⟩ = some (.int .i64 (nx : Nat))
  c1 : wr.cell? ⟨g16, 1, none⟩ = some (.int .i64 (ny : Nat))
  c2 : wr.cell? ⟨g16, 2, none⟩ = some (.slice (some ⟨gt, 0, none⟩) n n)
  l1 : w2.heap.size ≤ gbt
  l2 : w2.heap.size ≤ gt
  n1 : gbt ≠ gt
  n2 : gbt ≠ g16
  n3 : gt ≠ g16
theorem Pcs.next {w2 wr x : World} {gbt gt g16 nx ny n pb : Nat} {fb ft : Nat → Nat} (h : Pcs w2 wr gbt gt g16 nx ny n pb fb ft) (q : Q wr x) : Pcs w2 x gbt gt g16 nx ny n pb fb ft :=
  ⟨h.q.trans q, h.bt.next q, h.tl.next q, q.cell h.c0, q.cell h.c1, q.cell h.c2, h.l1, h.l2, h.n1, h.n2, h.n3⟩
theorem Pcs.setb {w2 wr : World} {gbt gt g16 nx ny n pb : Nat} {fb ft f' : Nat → Nat} (h : Pcs w2 wr gbt gt g16 nx ny n pb fb ft) {i v : Nat} (hi : i < pb) (hv : v = f' i) (hs : ∀ j, j ≠ i → f' j = fb j) : Pcs w2 (wr.setCell ⟨gbt, i, none⟩ (.int .u32 (v : Nat))) gbt gt g16 nx ny n pb f' ft := by
  have hr := h.bt.set (i := i) (by rw [tabN_len]; exact hi) v
  rw [tabN_set (g := f') hv (fun j _ hj => hs j hj)] at hr
  exact ⟨h.q.set h.l1 _, hr, h.tl.other (p := ⟨gbt, i, none⟩) h.n1 _, (World.cell?_setCell_other _ _ _ _ (fun e => h.n2 (by injection e))).trans h.c0, (World.cell?_setCell_other _ _ _ _ (fun e => h.n2 (by injection e))).trans h.c1, (World.cell?_setCell_other _ _ _ _ (fun e => h.n2 (by injection e))).trans h.c2, h.l1, h.l2, h.n1, h.n2, h.n3⟩
theorem Pcs.sett {w2 wr : World} {gbt gt g16 nx ny n pb : Nat} {fb ft f' : Nat → Nat} (h : Pcs w2 wr gbt gt g16 nx ny n pb fb ft) {i v : Nat} (hi : i < n) (hv : v = f' i) (hs : ∀ j, j ≠ i → f' j = ft j) : Pcs w2 (wr.setCell ⟨gt, i, none⟩ (.int .u32 (v : Nat))) gbt gt g16 nx ny n pb fb f' := by
  have hr := h.tl.set (i := i) (by rw [tabN_len]; exact hi) v
  rw [tabN_set (g := f') hv (fun j _ hj => hs j hj)] at hr
  exact ⟨h.q.set h.l2 _, h.bt.other (p := ⟨gt, i, none⟩) (fun e => h.n1 e.symm) _, hr, (World.cell?_setCell_other _ _ _ _ (fun e => h.n3 (by injection e))).trans h.c0, (World.cell?_setCell_other _ _ _ _ (fun e => h.n3 (by injection e))).trans h.c1, (World.cell?_setCell_other _ _ _ _ (fun e => h.n3 (by injection e))).trans h.c2, h.l1, h.l2, h.n1, h.n2, h.n3⟩
theorem Pcs.alike {w2 wr : World} {gbt gt g16 nx ny n pb : Nat} {fb ft fb' ft' : Nat → Nat} (h : Pcs w2 wr gbt gt g16 nx ny n pb fb ft) (h1 : ∀ i, i < pb → fb' i = fb i) (h2 : ∀ i, i < n → ft' i = ft i) : Pcs w2 wr gbt gt g16 nx ny n pb fb' ft' := by
  have a := h.bt
  have b := h.tl
  rw [← tabN_congr h1] at a
  rw [← tabN_congr h2] at b
  exact ⟨h.q, a, b, h.c0, h.c1, h.c2, h.l1, h.l2, h.n1, h.n2, h.n3⟩
theorem usl_drop {w : World} {gs os cs sl ya : Nat} {S : List Nat} (hU : UIs w gs os S) (hl : S.length = sl) (hc : S.length ≤ cs) (hy : ya ≤ sl) : USl w (.slice (some ⟨gs, os + ya, none⟩) (sl - ya) (cs - ya)) (S.drop ya) := by
  have hlen : (S.drop ya).length = sl - ya := by rw [List.length_drop, hl]
  have h : UIs w gs (os + ya) (S.drop ya) := fun i hi => by
    rw [hlen] at hi
    have := hU (ya + i) (by omega)
    rw [show os + ya + i = os + (ya + i) by omega, this]
    congr 3
    rw [List.getD_eq_getElem?_getD, List.getD_eq_getElem?_getD, List.getElem?_drop]
  have := h.usl (cap := cs - ya) (by rw [hlen]; omega)
  rw [hlen] at this
  exact this
theorem drop_bd {S : List Nat} (h : ∀ i, S.getD i 0 < 4294967296) (ya i : Nat) : (S.drop ya).getD i 0 < 4294967296 := by
  have := h (ya + i)
  rw [List.getD_eq_getElem?_getD] at this ⊢
  rw [List.getElem?_drop]
  exact this
section
variable {ρ : Operand → Value} {x : World} {d : Option Tmp} {ty : TypeId} {ps : String} {af : Array Edge} {gd : Option (Nat × Bool)}
theorem run_ixu {j k gg Lw cap i : Nat} (h : ρ (.tmp j) = .slice (some ⟨gg, 0, none⟩) Lw cap) (h' : ρ (.tmp k) = .int .i64 (i : Nat)) (hi : i < Lw) : (execOp ρ { dst := d, op := .indexAddr 23 (.tmp j) (.tmp k), type := ty, pos := ps, after := af, guard := gd }).run Try.prog x = .ok (.value (.pointer (some ⟨gg, i, none⟩))) x := by
  simp [execOp, h, h', go_sem, hi]
theorem run_stu {j k : Nat} {B i : Nat} {n : Nat} {u : Value} (h : ρ (.tmp j) = .pointer (some ⟨B, i, none⟩)) (h' : ρ (.tmp k) = .int .u32 (n : Nat)) (c : x.cell? ⟨B, i, none⟩ = some u) (f : x.frozen? ⟨B, i, none⟩ = false) : (execOp ρ { dst := none, op := .store 30 (.tmp j) (.tmp k), type := ty, pos := ps, after := af, guard := gd }).run Try.prog x = .ok .skip (x.setCell ⟨B, i, none⟩ (.int .u32 (n : Nat))) := by
  simp [execOp, h, h', go_sem, c, f]
end
theorem overW_lt (X : Nat) : overW X < 4294967296 := by
  unfold overW
  split
  · decide
  · exact toldD_lt _
theorem smpV_lt (L : List (Int × Int)) (S : List Nat) : smpV L S < 4294967296 := overW_lt _
theorem btw_lt {A : LLs} {S : List Nat} {pa f e k i : Nat} (h : ∀ i, S.getD i 0 < 4294967296) (y : Nat) : btwV A S pa f e k i y < 4294967296 := by
  unfold btwV
  split
  · exact smpV_lt _ _
  · split
    · decide
    · split
      · exact smpV_lt _ _
      · decide
end Go.Proofs.Ytnlphjekillciaa
