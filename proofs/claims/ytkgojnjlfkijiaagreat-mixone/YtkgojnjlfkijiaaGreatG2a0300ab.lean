/- Mixing: what is done to the first three samples of each place. -/
import Derived.Test.YtkgojnjlfkijiaaGreatG8dc64662
import Derived.Test.YtkgojnjlfkijiaaGreatG5727610f
import Derived.Test.YtkgojnjlfkijiaaGreatGa5861977
import Derived.Test.YtkgojnjlfkijiaaGreatG14260c10
import Derived.Test.YtkgojnjlfkijiaaGreatGda973cf8
import Derived.Test.YtkgojnjlfkijiaaGreatG42d4e526
namespace Go.Proofs.YtkgojnjlfkijiaaGreat
open Go.RowKit
set_option linter.unusedVariables false
set_option linter.unusedSimpArgs false

/-- A function of three samples. -/
structure Fun3 (f : FuncId) (recv : Value) (F0 F1 F2 : Nat → Nat → Nat → Nat) : Prop where
  en : ∀ (args : Array Value) (x : World), (callFunc f args).run Tryz.prog x = .ok (.enter f args) x
  c : ∀ (r s t : Nat), r < 4294967296 → s < 4294967296 → t < 4294967296 → ∀ x : World, Calls Tryz.prog f #[recv, .agg #[.int .u32 (r : Int), .int .u32 (s : Int), .int .u32 (t : Int)]] x fun e x' => e = .returned (.agg #[.int .u32 ((F0 r s t : Nat) : Int), .int .u32 ((F1 r s t : Nat) : Int), .int .u32 ((F2 r s t : Nat) : Int)]) ∧ Q x x'
  lt : ∀ (r s t : Nat), r < 4294967296 → s < 4294967296 → t < 4294967296 → F0 r s t < 4294967296 ∧ F1 r s t < 4294967296 ∧ F2 r s t < 4294967296
theorem set_ex {w : World} {p : Addr} (q : Addr) (v : Value) (h : ∃ u, w.cell? p = some u) : ∃ u, (w.setCell q v).cell? p = some u := by
  obtain ⟨u, hu⟩ := h
  by_cases e : p = q
  · subst e; exact ⟨v, World.cell?_setCell_same _ _ _ hu⟩
  · exact ⟨u, (World.cell?_setCell_other _ _ _ _ (fun e' => e e'.symm)).trans hu⟩
/-- Three planes, the first i places mixed. -/
def mixT (F : Nat → Nat → Nat → Nat) (S0 S1 S2 S : List Nat) (i j : Nat) : Nat := if j < i then F (S0.getD j 0) (S1.getD j 0) (S2.getD j 0) else S.getD j 0
structure W3 (w1 wx : World) (y0 y1 y2 : PL) (N : Nat) (t0 t1 t2 : Nat → Nat) : Prop where
  u0 : ∀ j, j < N → wx.cell? ⟨y0.g, y0.o + j, none⟩ = some (.int .u32 ((t0 j : Nat) : Int))
  u1 : ∀ j, j < N → wx.cell? ⟨y1.g, y1.o + j, none⟩ = some (.int .u32 ((t1 j : Nat) : Int))
  u2 : ∀ j, j < N → wx.cell? ⟨y2.g, y2.o + j, none⟩ = some (.int .u32 ((t2 j : Nat) : Int))
  fr : Fr w1 wx (fun b => b ≠ y0.g ∧ b ≠ y1.g ∧ b ≠ y2.g)
  ex : ∀ (p : Addr) (v : Value), w1.cell? p = some v → ∃ u, wx.cell? p = some u
theorem W3.next {w1 wx wy : World} {y0 y1 y2 : PL} {N : Nat} {t0 t1 t2 : Nat → Nat} (h : W3 w1 wx y0 y1 y2 N t0 t1 t2) (q : Q wx wy) : W3 w1 wy y0 y1 y2 N t0 t1 t2 :=
  ⟨fun j hj => q.cell (h.u0 j hj), fun j hj => q.cell (h.u1 j hj), fun j hj => q.cell (h.u2 j hj), h.fr.trans (q.fr _), fun p v hp => by obtain ⟨u, hu⟩ := h.ex p v hp; exact ⟨u, q.cell hu⟩⟩
theorem W3.set {w1 wx : World} {y0 y1 y2 : PL} {N : Nat} {F0 F1 F2 : Nat → Nat → Nat → Nat} {S0 S1 S2 : List Nat} {i : Nat} (h : W3 w1 wx y0 y1 y2 N (mixT F0 S0 S1 S2 S0 i) (mixT F1 S0 S1 S2 S1 i) (mixT F2 S0 S1 S2 S2 i)) (hi : i < N) (n01 : y0.g ≠ y1.g) (n02 : y0.g ≠ y2.g) (n12 : y1.g ≠ y2.g)
    {U V Z : Nat} (hU : F0 (S0.getD i 0) (S1.getD i 0) (S2.getD i 0) = U) (hV : F1 (S0.getD i 0) (S1.getD i 0) (S2.getD i 0) = V) (hZ : F2 (S0.getD i 0) (S1.getD i 0) (S2.getD i 0) = Z) :
    W3 w1 (((wx.setCell ⟨y0.g, y0.o + i, none⟩ (.int .u32 (U : Int))).setCell ⟨y1.g, y1.o + i, none⟩ (.int .u32 (V : Int))).setCell ⟨y2.g, y2.o + i, none⟩ (.int .u32 (Z : Int))) y0 y1 y2 N (mixT F0 S0 S1 S2 S0 (i + 1)) (mixT F1 S0 S1 S2 S1 (i + 1)) (mixT F2 S0 S1 S2 S2 (i + 1)) := by
  have key : ∀ (F : Nat → Nat → Nat → Nat) (S : List Nat) (j : Nat), j ≠ i → mixT F S0 S1 S2 S (i + 1) j = mixT F S0 S1 S2 S i j := fun F S j hj => by
    unfold mixT
    by_cases h : j < i
    · rw [if_pos h, if_pos (by omega)]
    · rw [if_neg h, if_neg (by omega)]
  have key2 : ∀ (F : Nat → Nat → Nat → Nat) (S : List Nat), mixT F S0 S1 S2 S (i + 1) i = F (S0.getD i 0) (S1.getD i 0) (S2.getD i 0) := fun F S => by
    unfold mixT; rw [if_pos (by omega)]
  refine ⟨fun j hj => ?_, fun j hj => ?_, fun j hj => ?_, ?_, fun p v hp => set_ex _ _ (set_ex _ _ (set_ex _ _ (h.ex p v hp)))⟩
  · rw [World.cell?_setCell_other _ _ _ _ (by simp <;> omega), World.cell?_setCell_other _ _ _ _ (by simp <;> omega)]
    by_cases e : j = i
    · subst e; rw [key2, hU]; exact World.cell?_setCell_same _ _ _ (h.u0 j hj)
    · rw [World.cell?_setCell_other _ _ _ _ (by simp <;> omega), key _ _ _ e]; exact h.u0 j hj
  · rw [World.cell?_setCell_other _ _ _ _ (by simp <;> omega)]
    by_cases e : j = i
    · subst e; rw [key2, hV]
      exact World.cell?_setCell_same _ _ _ ((World.cell?_setCell_other _ _ _ _ (by simp <;> omega)).trans (h.u1 j hj))
    · rw [World.cell?_setCell_other _ _ _ _ (by simp <;> omega), World.cell?_setCell_other _ _ _ _ (by simp <;> omega), key _ _ _ e]; exact h.u1 j hj
  · by_cases e : j = i
    · subst e; rw [key2, hZ]
      exact World.cell?_setCell_same _ _ _ ((World.cell?_setCell_other _ _ _ _ (by simp <;> omega)).trans ((World.cell?_setCell_other _ _ _ _ (by simp <;> omega)).trans (h.u2 j hj)))
    · rw [World.cell?_setCell_other _ _ _ _ (by simp <;> omega), World.cell?_setCell_other _ _ _ _ (by simp <;> omega), World.cell?_setCell_other _ _ _ _ (by simp <;> omega), key _ _ _ e]; exact h.u2 j hj
  · exact ((h.fr.set (fun h => h.1 rfl) _).set (fun h => h.2.1 rfl) _).set (fun h => h.2.2 rfl) _
def mix3 (F : Nat → Nat → Nat → Nat) (S0 S1 S2 : List Nat) : List Nat := (List.range S0.length).map fun i => F (S0.getD i 0) (S1.getD i 0) (S2.getD i 0)
theorem mix3_len (F : Nat → Nat → Nat → Nat) (S0 S1 S2 : List Nat) : (mix3 F S0 S1 S2).length = S0.length := by simp [mix3]
theorem mix3_get {F : Nat → Nat → Nat → Nat} {S0 S1 S2 : List Nat} {i : Nat} (h : i < S0.length) : (mix3 F S0 S1 S2).getD i 0 = F (S0.getD i 0) (S1.getD i 0) (S2.getD i 0) := by
  unfold mix3
  rw [List.getD_eq_getElem?_getD, List.getElem?_map, List.getElem?_range h]; rfl
/-- The planes of a picture whose first three are mixed. -/
def mixL (F0 F1 F2 : Nat → Nat → Nat → Nat) : List (List Nat) → List (List Nat)
  | S0 :: S1 :: S2 :: r => mix3 F0 S0 S1 S2 :: mix3 F1 S0 S1 S2 :: mix3 F2 S0 S1 S2 :: r
  | l => l
theorem mixT_all (F : Nat → Nat → Nat → Nat) (S0 S1 S2 S : List Nat) {N j : Nat} (hN : S0.length = N) (hj : j < N) : mixT F S0 S1 S2 S N j = (mix3 F S0 S1 S2).getD j 0 := by
  unfold mixT; rw [if_pos hj, mix3_get (by omega)]
theorem Mine.mixed {lo N : Nat} {w4 wr : World} {y : PL} (h : Mine lo w4 N y) (hsz : w4.heap.size ≤ wr.heap.size) (fz : ∀ p, wr.frozen? p = w4.frozen? p) (ex : ∀ (p : Addr) (v : Value), w4.cell? p = some v → ∃ u, wr.cell? p = some u) {T : List Nat} (hT : T.length = N) (hu : ∀ j, j < N → wr.cell? ⟨y.g, y.o + j, none⟩ = some (.int .u32 ((T.getD j 0 : Nat) : Int))) (hlt : ∀ i, T.getD i 0 < 4294967296) : Mine lo wr N { y with S := T } :=
  ⟨h.o, h.low, Nat.lt_of_lt_of_le h.high hsz, ⟨hT, by have := h.gd.room; have := h.gd.len; show T.length ≤ y.cap; omega, fun j hj => hu j (by have : j < T.length := hj; omega), hlt⟩, fun j => (fz _).trans (h.free j), fun j hj => by obtain ⟨u, hu⟩ := h.all j hj; exact ex _ _ hu, h.cm⟩
theorem mix3_lt {F : Nat → Nat → Nat → Nat} {S0 S1 S2 : List Nat} (h : ∀ i, F (S0.getD i 0) (S1.getD i 0) (S2.getD i 0) < 4294967296) (i : Nat) : (mix3 F S0 S1 S2).getD i 0 < 4294967296 := by
  by_cases hi : i < S0.length
  · rw [mix3_get hi]; exact h i
  · rw [List.getD_eq_getElem?_getD, List.getElem?_eq_none (by rw [mix3_len]; omega)]; decide
theorem Nw.mixed {lo g1 cap1 a b : Nat} {w4 wr : World} {y0 y1 y2 : PL} {Mr : List PL} (h : Nw lo w4 g1 cap1 a b (y0 :: y1 :: y2 :: Mr)) {S0 S1 S2 : List Nat} {F0 F1 F2 : Nat → Nat → Nat → Nat} (hS : y0.S = S0 ∧ y1.S = S1 ∧ y2.S = S2)
    (W : W3 w4 wr y0 y1 y2 (a * b) (mixT F0 S0 S1 S2 S0 (a * b)) (mixT F1 S0 S1 S2 S1 (a * b)) (mixT F2 S0 S1 S2 S2 (a * b))) (hlt : ∀ r s t, r < 4294967296 → s < 4294967296 → t < 4294967296 → F0 r s t < 4294967296 ∧ F1 r s t < 4294967296 ∧ F2 r s t < 4294967296) :
    Nw lo wr g1 cap1 a b ({ y0 with S := mix3 F0 S0 S1 S2 } :: { y1 with S := mix3 F1 S0 S1 S2 } :: { y2 with S := mix3 F2 S0 S1 S2 } :: Mr) := by
  obtain ⟨k0, k0'⟩ := h.it y0 (by simp)
  obtain ⟨k1, k1'⟩ := h.it y1 (by simp)
  obtain ⟨k2, k2'⟩ := h.it y2 (by simp)
  have l0 : S0.length = a * b := by rw [← hS.1]; exact k0.gd.len
  have l1 : S1.length = a * b := by rw [← hS.2.1]; exact k1.gd.len
  have l2 : S2.length = a * b := by rw [← hS.2.2]; exact k2.gd.len
  have b0 : ∀ i, S0.getD i 0 < 4294967296 := by rw [← hS.1]; exact k0.gd.lt
  have b1 : ∀ i, S1.getD i 0 < 4294967296 := by rw [← hS.2.1]; exact k1.gd.lt
  have b2 : ∀ i, S2.getD i 0 < 4294967296 := by rw [← hS.2.2]; exact k2.gd.lt
  have M0 : Mine lo wr (a * b) { y0 with S := mix3 F0 S0 S1 S2 } := k0.mixed W.fr.size W.fr.frz W.ex (by rw [mix3_len]; exact l0) (fun j hj => by rw [← mixT_all F0 S0 S1 S2 S0 l0 hj]; exact W.u0 j hj) (mix3_lt (fun i => (hlt _ _ _ (b0 i) (b1 i) (b2 i)).1))
  have M1 : Mine lo wr (a * b) { y1 with S := mix3 F1 S0 S1 S2 } := k1.mixed W.fr.size W.fr.frz W.ex (by rw [mix3_len]; exact l0) (fun j hj => by rw [← mixT_all F1 S0 S1 S2 S1 l0 hj]; exact W.u1 j hj) (mix3_lt (fun i => (hlt _ _ _ (b0 i) (b1 i) (b2 i)).2.1))
  have M2 : Mine lo wr (a * b) { y2 with S := mix3 F2 S0 S1 S2 } := k2.mixed W.fr.size W.fr.frz W.ex (by rw [mix3_len]; exact l0) (fun j hj => by rw [← mixT_all F2 S0 S1 S2 S2 l0 hj]; exact W.u2 j hj) (mix3_lt (fun i => (hlt _ _ _ (b0 i) (b1 i) (b2 i)).2.2))
  have hap := h.ap
  simp only [List.pairwise_cons, List.mem_cons] at hap
  obtain ⟨p0, p1, p2, p3⟩ := hap
  have it : ∀ x ∈ ({ y0 with S := mix3 F0 S0 S1 S2 } :: { y1 with S := mix3 F1 S0 S1 S2 } :: { y2 with S := mix3 F2 S0 S1 S2 } :: Mr : List PL), Mine lo wr (a * b) x ∧ x.g ≠ g1 := fun x hx => by
    simp only [List.mem_cons] at hx
    rcases hx with rfl | rfl | rfl | hx
    · exact ⟨M0, k0'⟩
    · exact ⟨M1, k1'⟩
    · exact ⟨M2, k2'⟩
    · obtain ⟨q1, q2⟩ := h.it x (by simp [hx])
      exact ⟨q1.keep W.fr ⟨fun e => p0 x (Or.inr (Or.inr hx)) e.symm, fun e => p1 x (Or.inr hx) e.symm, fun e => p2 x hx e.symm⟩, q2⟩
  have row : PIs wr g1 0 a b (y0 :: y1 :: y2 :: Mr) := W.fr.pis h.pc.row ⟨fun e => k0' e.symm, fun e => k1' e.symm, fun e => k2' e.symm⟩
  have vv : ∀ (y : PL) (T : List Nat), T.length = y.S.length → PL.v { y with S := T } = y.v := fun y T hT => by show Value.slice _ T.length _ = _; rw [hT]; rfl
  refine ⟨⟨h.pc.size, by simp, by have := h.pc.n4; simpa using this, fun i x hx => ?_, fun x hx => (it x hx).1.gd⟩, h.low, Nat.lt_of_lt_of_le h.high W.fr.size, by have := h.room; simpa using this, fun j => (W.fr.frz _).trans (h.free j), it, ?_⟩
  · match i, hx with
    | 0, hx =>
      have hx := Option.some.inj hx
      rw [← hx, vv y0 _ (by rw [mix3_len, hS.1])]
      exact row 0 y0 rfl
    | 1, hx =>
      have hx := Option.some.inj hx
      rw [← hx, vv y1 _ (by rw [mix3_len, l0, hS.2.1, l1])]
      exact row 1 y1 rfl
    | 2, hx =>
      have hx := Option.some.inj hx
      rw [← hx, vv y2 _ (by rw [mix3_len, l0, hS.2.2, l2])]
      exact row 2 y2 rfl
    | i + 3, hx => exact row (i + 3) x (by simpa using hx)
  · simp only [List.pairwise_cons, List.mem_cons]
    refine ⟨fun x hx => ?_, fun x hx => ?_, p2, p3⟩
    · rcases hx with rfl | rfl | hx
      · exact p0 y1 (Or.inl rfl)
      · exact p0 y2 (Or.inr (Or.inl rfl))
      · exact p0 x (Or.inr (Or.inr hx))
    · rcases hx with rfl | hx
      · exact p1 y2 (Or.inl rfl)
      · exact p1 x (Or.inr hx)
theorem run_store1 {ρ : Operand → Value} {o : Oper} {s u : Operand} (ho : o.op = .store 22 s u) {x : World} {p : Addr} {v : Int} {c : Value} (hs : ρ s = .pointer (some p)) (hu : ρ u = .int .u32 v) (hc : x.cell? p = some c) (hf : x.frozen? p = false) : (execOp ρ o).run Tryz.prog x = .ok .skip (x.setCell p (.int .u32 v)) := by
  obtain ⟨dst, op, ty, ps, af, g⟩ := o
  have ho : op = _ := ho
  subst ho
  simp [execOp, hs, hu, go_sem, hc, hf]
end Go.Proofs.YtkgojnjlfkijiaaGreat
/- Mixing: the walk. -/
namespace Go.Proofs.YtkgojnjlfkijiaaGreat
open Go.RowKit
end Go.Proofs.YtkgojnjlfkijiaaGreat
/- Sizes, borders: the program's and the document's. -/
namespace Go.Proofs.YtkgojnjlfkijiaaGreat
open Go.RowKit
set_option linter.unusedVariables false
set_option linter.unusedSimpArgs false

def sizeB (W H : Int) : Bool := decide (1 ≤ W) && decide (W ≤ 1024) && decide (1 ≤ H) && decide (H ≤ 1024) && decide (W * H ≤ 65536)
theorem sizeB_true {W H : Int} : sizeB W H = true ↔ SizeB W H := by
  unfold sizeB SizeB
  simp only [Bool.and_eq_true, decide_eq_true_eq]
  constructor
  · rintro ⟨⟨⟨⟨a, b⟩, c⟩, d⟩, e⟩; exact ⟨a, b, c, d, e⟩
  · rintro ⟨a, b, c, d, e⟩; exact ⟨⟨⟨⟨a, b⟩, c⟩, d⟩, e⟩
theorem sizeB_false {W H : Int} (h : ¬ SizeB W H) : sizeB W H = false := by
  cases g : sizeB W H
  · rfl
  · exact absurd (sizeB_true.1 g) h
def sideB (n : Int) : Bool := decide (1 ≤ n) && decide (n ≤ 1024)
theorem sizeB_eq (W H : Int) : sizeB W H = (sideB W && (sideB H && decide (W * H ≤ 65536))) := by
  unfold sizeB sideB
  cases decide (1 ≤ W) <;> cases decide (W ≤ 1024) <;> cases decide (1 ≤ H) <;> cases decide (H ≤ 1024) <;> rfl
theorem sideB_true {n : Int} : sideB n = true ↔ 1 ≤ n ∧ n ≤ 1024 := by
  unfold sideB; simp
theorem area_le {a b : Int} (ha : 1 ≤ a ∧ a ≤ 1024) (hb : 1 ≤ b ∧ b ≤ 1024) : 1 ≤ a * b ∧ a * b ≤ 1048576 := by
  have h1 : a * b ≤ 1024 * b := Int.mul_le_mul_of_nonneg_right ha.2 (by omega)
  have h2 : 1 * b ≤ a * b := Int.mul_le_mul_of_nonneg_right ha.1 (by omega)
  omega

theorem isSide_any (n : Int) (w : World) : Calls Tryz.prog 134 #[.int .i64 n] w fun e w' => e = .returned (.bool (sideB n)) ∧ w' = w := by
  by_cases h1 : 1 ≤ n
  · by_cases h2 : n ≤ 1024
    · have e : sideB n = true := sideB_true.2 ⟨h1, h2⟩
      rw [e]
      clear e
      go_enter Tryz.func134, Tryz.ntmps134
      go_wp2_with fail
      go_ret
      exact ⟨rfl, rfl⟩
    · have e : sideB n = false := by unfold sideB; simp [h2]
      rw [e]
      clear e
      go_enter Tryz.func134, Tryz.ntmps134
      go_wp2_with fail
      go_ret
      exact ⟨rfl, rfl⟩
  · have e : sideB n = false := by unfold sideB; simp [h1]
    rw [e]
    clear e
    go_enter Tryz.func134, Tryz.ntmps134
    go_wp2_with fail
    go_ret
    exact ⟨rfl, rfl⟩
theorem isSize_any (W H : Int) (w : World) : Calls Tryz.prog 127 #[.int .i64 W, .int .i64 H] w fun e w' => e = .returned (.bool (sizeB W H)) ∧ w' = w := by
  rw [sizeB_eq]
  cases hW : sideB W
  · have A : Calls Tryz.prog 134 #[.int .i64 W] w fun e w' => e = .returned (.bool false) ∧ w' = w := hW ▸ isSide_any W w
    go_enter Tryz.func127, Tryz.ntmps127
    go_wp2_with (go_at_call 134; refine A.mono ?_; rintro e w1 ⟨rfl, rfl⟩)
    go_ret
    exact ⟨rfl, rfl⟩
  · have A : Calls Tryz.prog 134 #[.int .i64 W] w fun e w' => e = .returned (.bool true) ∧ w' = w := hW ▸ isSide_any W w
    cases hH : sideB H
    · have B : Calls Tryz.prog 134 #[.int .i64 H] w fun e w' => e = .returned (.bool false) ∧ w' = w := hH ▸ isSide_any H w
      go_enter Tryz.func127, Tryz.ntmps127
      go_wp2_with fail
      refine A.mono ?_
      rintro e w1 ⟨rfl, rfl⟩
      go_wp2_with fail
      refine B.mono ?_
      rintro e w1 ⟨rfl, rfl⟩
      go_wp2_with fail
      go_ret
      exact ⟨rfl, rfl⟩
    · have B : Calls Tryz.prog 134 #[.int .i64 H] w fun e w' => e = .returned (.bool true) ∧ w' = w := hH ▸ isSide_any H w
      have h1 := sideB_true.1 hW
      have h2 := sideB_true.1 hH
      have h3 := area_le h1 h2
      clear hW hH
      by_cases h4 : W * H ≤ 65536
      · rw [decide_eq_true h4]
        generalize hA : W * H = A0 at h3 h4
        go_enter Tryz.func127, Tryz.ntmps127
        go_wp2_with fail
        refine A.mono ?_
        rintro e w1 ⟨rfl, rfl⟩
        go_wp2_with fail
        refine B.mono ?_
        rintro e w1 ⟨rfl, rfl⟩
        go_wp2_with fail
        go_ret
        exact ⟨rfl, rfl⟩
      · rw [decide_eq_false h4]
        generalize hA : W * H = A0 at h3 h4
        have h5 : decide (A0 ≤ 65536) = false := decide_eq_false h4
        go_enter Tryz.func127, Tryz.ntmps127
        go_wp2_with fail
        refine A.mono ?_
        rintro e w1 ⟨rfl, rfl⟩
        go_wp2_with fail
        refine B.mono ?_
        rintro e w1 ⟨rfl, rfl⟩
        go_wp2_with fail
        go_ret
        exact ⟨rfl, rfl⟩

/-- What is wrong with a plane. -/
def chk (W H : Int) (n : Nat) : Int := if sizeB W H = true then (if (n : Int) = W * H then 0 else 51) else 50
theorem chk_bad {W H : Int} {n : Nat} (h : sizeB W H = false) : chk W H n = 50 := by unfold chk; rw [h]; rfl
theorem chk_count {W H : Int} {n : Nat} (h : sizeB W H = true) (hn : (n : Int) ≠ W * H) : chk W H n = 51 := by unfold chk; rw [if_pos h, if_neg hn]
theorem chk_ok {W H : Int} {n : Nat} (h : sizeB W H = true) (hn : (n : Int) = W * H) : chk W H n = 0 := by unfold chk; rw [if_pos h, if_pos hn]
theorem chk_zero {W H : Int} {n : Nat} (h : chk W H n = 0) : ∃ a b : Nat, W = a ∧ H = b ∧ Size a b ∧ n = a * b := by
  unfold chk at h
  by_cases g : sizeB W H = true
  · rw [if_pos g] at h
    by_cases g2 : (n : Int) = W * H
    · obtain ⟨a, b, rfl, rfl, hs⟩ := (sizeB_true.1 g).nat
      refine ⟨a, b, rfl, rfl, hs, ?_⟩
      rw [← Int.natCast_mul] at g2
      omega
    · rw [if_neg g2] at h; exact absurd h (by decide)
  · rw [if_neg g] at h; exact absurd h (by decide)
theorem chk_size {a b : Nat} (h : Size a b) : chk a b (a * b) = 0 := chk_ok (sizeB_true.2 h.b) (by rw [Int.natCast_mul])
theorem chk_cases (W H : Int) (n : Nat) : chk W H n = 50 ∨ chk W H n = 51 ∨ chk W H n = 0 := by
  unfold chk; split
  · split <;> simp
  · simp
set_option maxHeartbeats 1000000 in
theorem check_any (W H : Int) (a : Option Addr) (n c : Nat) (hn : n ≤ 9223372036854775807) (w : World) :
    Calls Tryz.prog 109 #[.agg #[.int .i64 W, .int .i64 H, .slice a n c]] w fun e w' => e = .returned (.int .i64 (chk W H n)) ∧ Q w w' := by
  have q0 : ∀ c t, Q w (w.alloc (.cells c t)) := fun c t => (Q.refl w).cells c t
  have Q0 : Hid (∀ c t, Q w (w.alloc (.cells c t))) := q0
  clear q0
  cases hS : sizeB W H
  · have A : ∀ w : World, Calls Tryz.prog 127 #[.int .i64 W, .int .i64 H] w fun e w' => e = .returned (.bool false) ∧ w' = w := fun w => hS ▸ isSize_any W H w
    rw [chk_bad hS]
    clear hS
    go_enter Tryz.func109, Tryz.ntmps109
    go_wp2_with (go_at_call 127; refine (A _).mono ?_; rintro e w1 ⟨rfl, rfl⟩)
    go_ret
    exact ⟨rfl, Q0.out _ _⟩
  · have A : ∀ w : World, Calls Tryz.prog 127 #[.int .i64 W, .int .i64 H] w fun e w' => e = .returned (.bool true) ∧ w' = w := fun w => hS ▸ isSize_any W H w
    obtain ⟨h1, h2, h3, h4, h5⟩ := sizeB_true.1 hS
    have h6 := area_le ⟨h1, h2⟩ ⟨h3, h4⟩
    by_cases hc : (n : Int) = W * H
    · rw [chk_ok hS hc]
      have hw : IntKind.i64.wrap (W * H) = W * H := by rw [IntKind.wrap_i64]; omega
      have hb : ((n : Int) == W * H) = true := by rw [hc]; simp
      have hb2 : ((n : Int) != W * H) = false := by rw [hc]; simp
      clear hS hc h5 h6 h1 h2 h3 h4
      go_enter Tryz.func109, Tryz.ntmps109
      go_wp2_with (go_at_call 127; refine (A _).mono ?_; rintro e w1 ⟨rfl, rfl⟩)
      go_ret
      exact ⟨rfl, Q0.out _ _⟩
    · rw [chk_count hS hc]
      have hw : IntKind.i64.wrap (W * H) = W * H := by rw [IntKind.wrap_i64]; omega
      have hb : ((n : Int) == W * H) = false := by rw [beq_eq_false_iff_ne]; exact hc
      have hb2 : ((n : Int) != W * H) = true := by rw [bne_iff_ne]; exact hc
      clear hS hc h5 h6 h1 h2 h3 h4
      go_enter Tryz.func109, Tryz.ntmps109
      go_wp2_with (go_at_call 127; refine (A _).mono ?_; rintro e w1 ⟨rfl, rfl⟩)
      go_ret
      exact ⟨rfl, Q0.out _ _⟩

theorem tmod_mod (i n : Int) (hn : 0 < n) : (0 ≤ Int.tmod i n → Int.tmod i n = i % n) ∧ (Int.tmod i n < 0 → Int.tmod i n + n = i % n) ∧ -n < Int.tmod i n ∧ Int.tmod i n < n := by
  have e : n * Int.tdiv i n + Int.tmod i n = i := Int.mul_tdiv_add_tmod i n
  have l1 := Int.tmod_lt_of_pos i hn
  have l2 : -n < Int.tmod i n := Int.lt_tmod_of_pos i hn
  have e2 : i % n = Int.tmod i n % n := by
    conv => lhs; rw [← e]
    rw [Int.add_comm, Int.add_mul_emod_self_left]
  refine ⟨fun h => ?_, fun h => ?_, l2, l1⟩
  · rw [e2, Int.emod_eq_of_lt h l1]
  · rw [e2, ← Int.add_emod_right, Int.emod_eq_of_lt (by omega) (by omega)]
end Go.Proofs.YtkgojnjlfkijiaaGreat
/- What is wrong with a picture. -/
namespace Go.Proofs.YtkgojnjlfkijiaaGreat
open Go.RowKit
set_option linter.unusedVariables false
set_option linter.unusedSimpArgs false

def numB (n : Int) : Bool := decide (1 ≤ n) && decide (n ≤ 4)
def spcB (k n : Int) : Bool := k == 0 || (decide (0 < k) && decide (k ≤ 4) && (n == 3 || n == 4))
theorem isnumber_any (n : Int) (w : World) : Calls Tryz.prog 108 #[.int .i64 n] w fun e w' => e = .returned (.bool (numB n)) ∧ w' = w := by
  unfold numB
  by_cases h1 : 1 ≤ n
  · by_cases h2 : n ≤ 4
    · rw [decide_eq_true h1, decide_eq_true h2]
      go_enter Tryz.func108, Tryz.ntmps108
      go_wp2_with fail
      go_ret
      exact ⟨rfl, rfl⟩
    · rw [decide_eq_true h1, decide_eq_false h2]
      have g2 := decide_eq_false h2
      go_enter Tryz.func108, Tryz.ntmps108
      go_wp2_with fail
      go_ret
      exact ⟨rfl, rfl⟩
  · rw [decide_eq_false h1]
    have g1 := decide_eq_false h1
    go_enter Tryz.func108, Tryz.ntmps108
    go_wp2_with fail
    go_ret
    exact ⟨rfl, rfl⟩
set_option maxHeartbeats 1000000 in
theorem isspace8_any (k n : Int) (w : World) : Calls Tryz.prog 111 #[.int .i64 k, .int .i64 n] w fun e w' => e = .returned (.bool (spcB k n)) ∧ w' = w := by
  by_cases h0 : k = 0
  · subst h0
    go_enter Tryz.func111, Tryz.ntmps111
    go_wp2_with fail
    go_ret
    exact ⟨rfl, rfl⟩
  · have b0 : (k == 0) = false := by rw [beq_eq_false_iff_ne]; exact h0
    by_cases h1 : 0 < k
    · by_cases h2 : k ≤ 4
      · have e : spcB k n = (n == 3 || n == 4) := by unfold spcB; rw [b0, decide_eq_true h1, decide_eq_true h2]; simp
        rw [e]
        by_cases h3 : n = 3
        · subst h3
          go_enter Tryz.func111, Tryz.ntmps111
          go_wp2_with fail
          go_ret
          exact ⟨rfl, rfl⟩
        · have b3 : (n == 3) = false := by rw [beq_eq_false_iff_ne]; exact h3
          rw [b3]
          go_enter Tryz.func111, Tryz.ntmps111
          go_wp2_with fail
          go_ret
          exact ⟨by simp, rfl⟩
      · have e : spcB k n = false := by unfold spcB; rw [b0, decide_eq_false h2]; simp
        rw [e]
        have g2 := decide_eq_false h2
        go_enter Tryz.func111, Tryz.ntmps111
        go_wp2_with fail
        go_ret
        exact ⟨rfl, rfl⟩
    · have e : spcB k n = false := by unfold spcB; rw [b0, decide_eq_false h1]; simp
      rw [e]
      have g1 := decide_eq_false h1
      go_enter Tryz.func111, Tryz.ntmps111
      go_wp2_with fail
      go_ret
      exact ⟨rfl, rfl⟩
set_option maxHeartbeats 1000000 in
theorem onesize_any (a b c d : Int) (p q : Option Addr) (n m k l : Nat) (w : World) : Calls Tryz.prog 110 #[.agg #[.int .i64 a, .int .i64 b, .slice p n m], .agg #[.int .i64 c, .int .i64 d, .slice q k l]] w fun e w' => e = .returned (.bool (a == c && b == d)) ∧ Q w w' := by
  have q0 : Hid (∀ c t c' t', Q w ((w.alloc (.cells c t)).alloc (.cells c' t'))) := fun c t c' t' => ((Q.refl w).cells c t).cells c' t'
  by_cases h1 : a = c
  · subst h1
    go_enter Tryz.func110, Tryz.ntmps110
    go_wp2_with fail
    go_ret
    exact ⟨by simp, q0.out _ _ _ _⟩
  · have b1 : (a == c) = false := by rw [beq_eq_false_iff_ne]; exact h1
    rw [b1]
    go_enter Tryz.func110, Tryz.ntmps110
    go_wp2_with fail
    go_ret
    exact ⟨rfl, q0.out _ _ _ _⟩
/-- A plane that came in: its sides, where its list lies, its samples. -/
structure PD where
  W : Int
  H : Int
  ad : Option Addr
  cap : Nat
  S : List Nat
def PD.sv (x : PD) : Value := .slice x.ad x.S.length x.cap
def DIs (w : World) (g o : Nat) (D : List PD) : Prop := ∀ i x, D[i]? = some x → w.cell? ⟨g, o + i * 3, none⟩ = some (.int .i64 x.W) ∧ w.cell? ⟨g, o + i * 3 + 1, none⟩ = some (.int .i64 x.H) ∧ w.cell? ⟨g, o + i * 3 + 2, none⟩ = some (.slice x.ad x.S.length x.cap) ∧ USl w x.sv x.S
theorem DIs.next {w w' : World} {g o : Nat} {D : List PD} (h : DIs w g o D) (q : Q w w') : DIs w' g o D := fun i x hx => by
  obtain ⟨h1, h2, h3, h4⟩ := h i x hx
  exact ⟨q.cell h1, q.cell h2, q.cell h3, h4.next q⟩
def DSl (w : World) (v : Value) (D : List PD) : Prop := (∃ ad c, v = .slice ad 0 c ∧ D = []) ∨ ∃ g o c, v = .slice (some ⟨g, o, none⟩) D.length c ∧ D.length ≤ c ∧ DIs w g o D
theorem DSl.next {w w' : World} {v : Value} {D : List PD} (h : DSl w v D) (q : Q w w') : DSl w' v D := by
  rcases h with h | ⟨g, o, c, h1, h2, h3⟩
  · exact Or.inl h
  · exact Or.inr ⟨g, o, c, h1, h2, h3.next q⟩
theorem DSl.form {w : World} {v : Value} {D : List PD} (h : DSl w v D) : ∃ ad c, v = .slice ad D.length c := by
  rcases h with ⟨ad, c, rfl, rfl⟩ | ⟨g, o, c, rfl, _⟩
  · exact ⟨ad, c, rfl⟩
  · exact ⟨_, c, rfl⟩
theorem DSl.some {w : World} {v : Value} {D : List PD} (h : DSl w v D) (h1 : 1 ≤ D.length) : ∃ g o c, v = .slice (some ⟨g, o, none⟩) D.length c ∧ D.length ≤ c ∧ DIs w g o D := by
  rcases h with ⟨ad, c, rfl, rfl⟩ | h
  · simp at h1
  · exact h
def PD.chk (x : PD) : Int := Proofs.YtkgojnjlfkijiaaGreat.chk x.W x.H x.S.length
def firstE : List PD → Int
  | [] => 0
  | x :: t => if x.chk = 0 then firstE t else x.chk
def PD.like (x y : PD) : Bool := x.W == y.W && x.H == y.H
def pd0 : PD := ⟨0, 0, none, 0, []⟩
/-- What is wrong with a picture. -/
def chkP (sp : Int) (D : List PD) : Int := if numB D.length = true then (if firstE D = 0 then (if (D.all fun x => x.like (D.getD 0 pd0)) = true then (if spcB sp D.length = true then 0 else 81) else 80) else firstE D) else 80
theorem firstE_at {D : List PD} {i : Nat} {x : PD} (hx : D[i]? = some x) (h : ∀ j y, j < i → D[j]? = some y → y.chk = 0) (hc : x.chk ≠ 0) : firstE D = x.chk := by
  induction D generalizing i with
  | nil => simp at hx
  | cons y t ih =>
    cases i with
    | zero =>
      have : y = x := by simpa using hx
      subst this
      unfold firstE
      rw [if_neg hc]
    | succ i =>
      unfold firstE
      rw [if_pos (h 0 y (by omega) rfl)]
      exact ih (by simpa using hx) (fun j z hj hz => h (j + 1) z (by omega) (by simpa using hz))
theorem firstE_ok {D : List PD} (h : ∀ (j : Nat) (y : PD), D[j]? = some y → y.chk = 0) : firstE D = 0 := by
  induction D with
  | nil => rfl
  | cons y t ih =>
    unfold firstE
    rw [if_pos (h 0 y rfl)]
    exact ih (fun j z hz => h (j + 1) z (by simpa using hz))
theorem firstE_zero {D : List PD} (h : firstE D = 0) : ∀ x ∈ D, x.chk = 0 := by
  induction D with
  | nil => exact fun x hx => by cases hx
  | cons y t ih =>
    unfold firstE at h
    by_cases hy : y.chk = 0
    · rw [if_pos hy] at h
      intro x hx
      rcases List.mem_cons.1 hx with rfl | hx
      · exact hy
      · exact ih h x hx
    · rw [if_neg hy] at h; exact absurd h hy
end Go.Proofs.YtkgojnjlfkijiaaGreat
/- Check: the walk. -/
namespace Go.Proofs.YtkgojnjlfkijiaaGreat
open Go.RowKit
set_option linter.unusedVariables false
set_option linter.unusedSimpArgs false

set_option maxHeartbeats 8000000 in
set_option maxRecDepth 100000 in
theorem pcheck_any (w : World) (sp : Int) (v : Value) (D : List PD) (h : DSl w v D) (hl : ∀ x ∈ D, x.S.length ≤ 9223372036854775807) (hD : D.length ≤ 9223372036854775807) :
    Calls Tryz.prog 71 #[.agg #[.int .i64 sp, v]] w fun e w' => e = .returned (.int .i64 (chkP sp D)) ∧ Q w w' := by
  obtain ⟨ad, cap, rfl⟩ := h.form
  have HD : Hid (DSl w (.slice ad D.length cap) D) := h
  obtain ⟨n, hn⟩ : ∃ n, D.length = n := ⟨_, rfl⟩
  have HN : Hid (D.length = n) := hn
  have HL : Hid (∀ x ∈ D, x.S.length ≤ 9223372036854775807) := hl
  have q0 : Hid (∀ c t, Q w (w.alloc (.cells c t))) := fun c t => (Q.refl w).cells c t
  rw [hn] at hD ⊢
  clear h hn hl
  cases hnb : numB n
  · have A : ∀ w : World, Calls Tryz.prog 108 #[.int .i64 (n : Int)] w fun e w' => e = .returned (.bool false) ∧ w' = w := fun w => hnb ▸ isnumber_any n w
    have e : chkP sp D = 80 := by unfold chkP; rw [HN.out, hnb]; rfl
    rw [e]
    clear e hnb
    go_enter Tryz.func71, Tryz.ntmps71
    go_wp2_with fail
    refine (A _).mono ?_
    rintro e w1 ⟨rfl, rfl⟩
    go_wp2_with fail
    go_ret
    exact ⟨rfl, q0.out _ _⟩
  · have A : ∀ w : World, Calls Tryz.prog 108 #[.int .i64 (n : Int)] w fun e w' => e = .returned (.bool true) ∧ w' = w := fun w => hnb ▸ isnumber_any n w
    have hn14 : 1 ≤ n ∧ n ≤ 4 := by unfold numB at hnb; simp at hnb; omega
    have HNB : Hid (numB n = true) := hnb
    obtain ⟨g, o, c, e1, e2, e3⟩ := HD.out.some (by rw [HN.out]; omega)
    injection e1 with e1 e4 e5
    subst e1 e5
    have HI : Hid (DIs w g o D) := e3
    rw [HN.out] at e2
    clear e3 e4 hnb HD
    go_enter Tryz.func71, Tryz.ntmps71
    go_wp2_with fail
    refine (A _).mono ?_
    rintro e w1 ⟨rfl, rfl⟩
    go_wp2_with fail
    have HQ1 : Hid (Q w (w.alloc (Obj.cells #[Value.int IntKind.i64 sp, Value.slice (some { block := g, off := o }) n cap] 33))) := q0.out _ _
    have b0 : (w.alloc (Obj.cells #[Value.int IntKind.i64 sp, Value.slice (some { block := g, off := o }) n cap] 33)).cell? ⟨w.heap.size, 0, none⟩ = some (.int .i64 sp) := by simp [go_sem]
    have b1 : (w.alloc (Obj.cells #[Value.int IntKind.i64 sp, Value.slice (some { block := g, off := o }) n cap] 33)).cell? ⟨w.heap.size, 1, none⟩ = some (.slice (some ⟨g, o, none⟩) n cap) := by simp [go_sem]
    have HI1 : Hid (DIs (w.alloc (Obj.cells #[Value.int IntKind.i64 sp, Value.slice (some { block := g, off := o }) n cap] 33)) g o D) := HI.out.next HQ1.out
    generalize (w.alloc (Obj.cells #[Value.int IntKind.i64 sp, Value.slice (some { block := g, off := o }) n cap] 33)) = w1 at *
    go_loopg [16] n (fun m s16 wx => ∃ i : Nat, s16 = .int .i64 i ∧ i + m = n ∧ Hid (∀ (j : Nat) (y : PD), j < i → D[j]? = some y → y.chk = 0) ∧ Hid (Q w1 wx))
    case atStart => exact ⟨0, rfl, by omega, fun j y hj => absurd hj (Nat.not_lt_zero _), Q.refl _⟩
    case round =>
      obtain ⟨i, rfl, him, HC, HQ⟩ := hrel
      by_cases hi : i < n
      · have hi0 : (0 : Int) ≤ (i : Int) := by omega
        have hi1 : (i : Int) < (n : Int) := by omega
        obtain ⟨x, hx⟩ : ∃ x, D[i]? = some x := ⟨_, List.getElem?_eq_getElem (by rw [HN.out]; exact hi)⟩
        obtain ⟨c0, c1, c2, _⟩ := (HI1.out.next HQ.out) i x hx
        have hxl := HL.out x (List.mem_of_getElem? hx)
        have HX : Hid (D[i]? = some x) := hx
        clear hx
        go_wp2_with fail
        refine (check_any x.W x.H x.ad x.S.length x.cap hxl _).mono ?_
        rintro e w3 ⟨rfl, q3⟩
        have HQ3 : Hid (Q w1 w3) := (HQ.out.cells _ _).trans q3
        obtain ⟨ck, hck⟩ : ∃ ck, chk x.W x.H x.S.length = ck := ⟨_, rfl⟩
        have HCK : Hid (x.chk = ck) := hck
        rw [hck]
        clear hck q3 c0 c1 c2
        by_cases h0 : ck = 0
        · subst h0
          have HC' : Hid (∀ (j : Nat) (y : PD), j < i + 1 → D[j]? = some y → y.chk = 0) := fun j y hj hy => by
            by_cases e : j = i
            · subst e
              have := HX.out.symm.trans hy
              injection this with this
              rw [← this]; exact HCK.out
            · exact HC.out j y (by omega) hy
          go_wp2_with fail
          go_roundg (n - (i + 1))
          case measure => go_light; omega
          case rel => go_light; exact ⟨i + 1, by go_num, by omega, HC', HQ3⟩
        · have h1 : (ck != 0) = true := by rw [bne_iff_ne]; exact h0
          have h2 : (ck == 0) = false := by rw [beq_eq_false_iff_ne]; exact h0
          have HE : Hid (chkP sp D = ck) := by
            show chkP sp D = ck
            have := firstE_at HX.out HC.out (by rw [HCK.out]; exact h0)
            unfold chkP
            rw [HN.out, if_pos HNB.out, this, HCK.out, if_neg h0]
          clear h0
          go_wp2_with fail
          go_ret
          exact ⟨by rw [HE.out]; rfl, HQ1.out.trans HQ3.out⟩
      · have HF : Hid (firstE D = 0) := firstE_ok (fun j y hy => HC.out j y (by have := (List.getElem?_eq_some_iff.1 hy).1; rw [HN.out] at this; omega) hy)
        have p1 := HQ.out.cell b1
        go_wp2_with fail
        obtain ⟨d, hd⟩ : ∃ d, D[0]? = some d := ⟨_, List.getElem?_eq_getElem (by rw [HN.out]; omega)⟩
        have HD0 : Hid (D.getD 0 pd0 = d) := by show D.getD 0 pd0 = d; rw [List.getD_eq_getElem?_getD, hd]; rfl
        have HI0 : Hid (DIs w1 g o D) := HI1
        have hn1 : (0 : Int) < (n : Int) := by omega
        have hie : n ≤ i := by omega
        have QR : Hid (Q w1 wr) := HQ
        generalize wr = wo at *
        go_loopg [29] n (fun m s29 wx => ∃ i : Nat, s29 = .int .i64 i ∧ i + m = n ∧ Hid (∀ (j : Nat) (y : PD), j < i → D[j]? = some y → y.like d = true) ∧ Hid (Q w1 wx))
        case atStart => exact ⟨0, rfl, by omega, fun j y hj => absurd hj (Nat.not_lt_zero _), QR⟩
        case round =>
          obtain ⟨i, rfl, him, HC, HQ⟩ := hrel
          by_cases hi : i < n
          · have hi0 : (0 : Int) ≤ (i : Int) := by omega
            have hi1 : (i : Int) < (n : Int) := by omega
            obtain ⟨x, hx⟩ : ∃ x, D[i]? = some x := ⟨_, List.getElem?_eq_getElem (by rw [HN.out]; exact hi)⟩
            obtain ⟨c0, c1, c2, _⟩ := (HI1.out.next HQ.out) i x hx
            obtain ⟨d0, d1, d2, _⟩ := (HI1.out.next HQ.out) 0 d hd
            rw [Nat.zero_mul, Nat.add_zero] at d0 d1 d2
            have p1 := HQ.out.cell b1
            have HX : Hid (D[i]? = some x) := hx
            clear hx
            go_wp2_with fail
            have q3 : Q wr (wr.alloc (Obj.cells #[Value.int IntKind.i64 x.W, Value.int IntKind.i64 x.H, Value.slice x.ad x.S.length x.cap] 52)) := (Q.refl wr).cells _ _
            have k0 : (wr.alloc (Obj.cells #[Value.int IntKind.i64 x.W, Value.int IntKind.i64 x.H, Value.slice x.ad x.S.length x.cap] 52)).cell? ⟨wr.heap.size, 0, none⟩ = some (.int .i64 x.W) := by simp [go_sem]
            have k1 : (wr.alloc (Obj.cells #[Value.int IntKind.i64 x.W, Value.int IntKind.i64 x.H, Value.slice x.ad x.S.length x.cap] 52)).cell? ⟨wr.heap.size, 1, none⟩ = some (.int .i64 x.H) := by simp [go_sem]
            have k2 : (wr.alloc (Obj.cells #[Value.int IntKind.i64 x.W, Value.int IntKind.i64 x.H, Value.slice x.ad x.S.length x.cap] 52)).cell? ⟨wr.heap.size, 2, none⟩ = some (.slice x.ad x.S.length x.cap) := by simp [go_sem]
            generalize (wr.alloc (Obj.cells #[Value.int IntKind.i64 x.W, Value.int IntKind.i64 x.H, Value.slice x.ad x.S.length x.cap] 52)) = w3 at *
            have n0 := qw_some w3
            have f0 := qw_cell k0
            have f1 := qw_cell k1
            have f2 := qw_cell k2
            have f3 := qw_cell (q3.cell d0)
            have f4 := qw_cell (q3.cell d1)
            have f5 := qw_cell (q3.cell d2)
            have f6 := qw_cell (q3.cell p1)
            have HQ3 : Hid (Q w1 w3) := HQ.out.trans q3
            obtain ⟨bb, hbb⟩ : ∃ bb, x.like d = bb := ⟨_, rfl⟩
            have HO : Hid (∀ w : World, Calls Tryz.prog 110 #[.agg #[.int .i64 x.W, .int .i64 x.H, .slice x.ad x.S.length x.cap], .agg #[.int .i64 d.W, .int .i64 d.H, .slice d.ad d.S.length d.cap]] w fun e w' => e = .returned (.bool bb) ∧ Q w w') := fun w => by rw [← hbb]; exact onesize_any x.W x.H d.W d.H x.ad d.ad x.S.length x.cap d.S.length d.cap w
            have HBB : Hid (x.like d = bb) := hbb
            clear hbb k0 k1 k2 d0 d1 d2 p1 c0 c1 c2
            refine wp_region_quiet_Q (by kernel_rfl) (by kernel_rfl) ?_
            repeat (first | go_big_quiet_step (first | (go_at_call 110; exact calls_qw (HO.out _))) | quiet_step (first | (go_at_call 110; exact calls_qw (HO.out _))))
            refine wpQuiet_nil ?_
            intro w4 hw'
            have HQ4 : Hid (Q w1 w4) := HQ3.out.trans (qw_out hw')
            clear hw' f0 f1 f2 f3 f4 f5 f6 n0
            cases bb
            · have HE : Hid (chkP sp D = 80) := by
                show chkP sp D = 80
                unfold chkP
                rw [HN.out, if_pos HNB.out, if_pos HF.out, HD0.out, if_neg]
                intro hall
                have := List.all_eq_true.1 hall x (List.mem_of_getElem? HX.out)
                rw [HBB.out] at this; cases this
              go_wp2_with fail
              go_ret
              exact ⟨by rw [HE.out]; rfl, HQ1.out.trans HQ4.out⟩
            · have HC' : Hid (∀ (j : Nat) (y : PD), j < i + 1 → D[j]? = some y → y.like d = true) := fun j y hj hy => by
                by_cases e : j = i
                · subst e
                  have := HX.out.symm.trans hy
                  injection this with this
                  rw [← this]; exact HBB.out
                · exact HC.out j y (by omega) hy
              go_wp2_with fail
              go_roundg (n - (i + 1))
              case measure => go_light; omega
              case rel => go_light; exact ⟨i + 1, by go_num, by omega, HC', HQ4⟩
          · have HALL : Hid ((D.all fun x => x.like (D.getD 0 pd0)) = true) := by
              show _ = _
              rw [HD0.out, List.all_eq_true]
              intro y hy
              obtain ⟨j, hj⟩ := List.getElem?_of_mem hy
              exact HC.out j y (by have := (List.getElem?_eq_some_iff.1 hj).1; rw [HN.out] at this; omega) hj
            have p0 := HQ.out.cell b0
            have p1 := HQ.out.cell b1
            cases hsp : spcB sp n
            · have HS : Hid (∀ w : World, Calls Tryz.prog 111 #[.int .i64 sp, .int .i64 (n : Int)] w fun e w' => e = .returned (.bool false) ∧ w' = w) := fun w => hsp ▸ isspace8_any sp n w
              have HE : Hid (chkP sp D = 81) := by
                show chkP sp D = 81
                unfold chkP
                rw [HN.out, if_pos HNB.out, if_pos HF.out, if_pos HALL.out, hsp]; rfl
              clear hsp
              go_wp2_with fail
              refine (HS.out _).mono ?_
              rintro e w5 ⟨rfl, rfl⟩
              go_wp2_with fail
              go_ret
              exact ⟨by rw [HE.out]; rfl, HQ1.out.trans HQ.out⟩
            · have HS : Hid (∀ w : World, Calls Tryz.prog 111 #[.int .i64 sp, .int .i64 (n : Int)] w fun e w' => e = .returned (.bool true) ∧ w' = w) := fun w => hsp ▸ isspace8_any sp n w
              have HE : Hid (chkP sp D = 0) := by
                show chkP sp D = 0
                unfold chkP
                rw [HN.out, if_pos HNB.out, if_pos HF.out, if_pos HALL.out, hsp]; rfl
              clear hsp
              go_wp2_with fail
              refine (HS.out _).mono ?_
              rintro e w5 ⟨rfl, rfl⟩
              go_wp2_with fail
              go_ret
              exact ⟨by rw [HE.out]; rfl, HQ1.out.trans HQ.out⟩
/-- A picture with which nothing is wrong. -/
theorem chkP_zero {w : World} {sp : Int} {v : Value} {D : List PD} (h : DSl w v D) (hc : chkP sp D = 0) (hlt : ∀ x ∈ D, ∀ i, x.S.getD i 0 < 4294967296) : ∃ g o cap a b L, v = .slice (some ⟨g, o, none⟩) L.length cap ∧ L.length ≤ cap ∧ Pc w g o a b L ∧ spcB sp L.length = true ∧ L.map PL.S = D.map PD.S := by
  unfold chkP at hc
  by_cases h1 : numB D.length = true
  · rw [if_pos h1] at hc
    by_cases h2 : firstE D = 0
    · rw [if_pos h2] at hc
      by_cases h3 : (D.all fun x => x.like (D.getD 0 pd0)) = true
      · rw [if_pos h3] at hc
        by_cases h4 : spcB sp D.length = true
        · have hn14 : 1 ≤ D.length ∧ D.length ≤ 4 := by unfold numB at h1; simp at h1; omega
          obtain ⟨g, o, c, e1, e2, e3⟩ := h.some hn14.1
          obtain ⟨d, hd⟩ : ∃ d, D[0]? = some d := ⟨_, List.getElem?_eq_getElem (by omega)⟩
          have hd0 : D.getD 0 pd0 = d := by rw [List.getD_eq_getElem?_getD, hd]; rfl
          rw [hd0] at h3
          obtain ⟨a, b, ha, hb, hs, hl⟩ := chk_zero (firstE_zero h2 d (List.mem_of_getElem? hd))
          have key : ∀ x ∈ D, x.W = a ∧ x.H = b ∧ x.S.length = a * b := fun x hx => by
            have hl := List.all_eq_true.1 h3 x hx
            unfold PD.like at hl
            simp at hl
            obtain ⟨a', b', ha', hb', _, hl'⟩ := chk_zero (firstE_zero h2 x hx)
            have e1 : a' = a := by have := hl.1; omega
            have e2 : b' = b := by have := hl.2; omega
            subst e1 e2
            exact ⟨ha', hb', hl'⟩
          have cell : ∀ x ∈ D, ∃ gx ox, x.ad = some ⟨gx, ox, none⟩ ∧ x.S.length ≤ x.cap ∧ UIs w gx ox x.S := fun x hx => by
            obtain ⟨i, hi⟩ := List.getElem?_of_mem hx
            obtain ⟨_, _, _, hu⟩ := e3 i x hi
            obtain ⟨gx, ox, cx, f1, f2, f3⟩ := hu.some (by rw [(key x hx).2.2]; exact hs.pos)
            unfold PD.sv at f1
            injection f1 with f1 f4 f5
            exact ⟨gx, ox, f1, by rw [f5]; exact f2, f3⟩
          have mk : ∃ L : List PL, L.length = D.length ∧ L.map PL.S = D.map PD.S ∧ ∀ (i : Nat) (x : PL), L[i]? = some x → ∃ y : PD, D[i]? = some y ∧ y.ad = some ⟨x.g, x.o, none⟩ ∧ y.S = x.S ∧ y.cap = x.cap := by
            refine ⟨D.map fun y => ⟨(y.ad.getD ⟨0, 0, none⟩).block, (y.ad.getD ⟨0, 0, none⟩).off, y.cap, y.S⟩, by simp, by rw [List.map_map]; rfl, fun i x hx => ?_⟩
            rw [List.getElem?_map] at hx
            cases hy : D[i]? with
            | none => rw [hy] at hx; cases hx
            | some y =>
              rw [hy] at hx
              have hx := Option.some.inj hx
              obtain ⟨gx, ox, f1, _⟩ := cell y (List.mem_of_getElem? hy)
              refine ⟨y, rfl, ?_, by rw [← hx], by rw [← hx]⟩
              rw [← hx]
              simp only [f1, Option.getD_some]
          obtain ⟨L, hL, hLS, hLx⟩ := mk
          refine ⟨g, o, c, a, b, L, by rw [hL]; exact e1, by rw [hL]; exact e2, ⟨hs, by omega, by omega, fun i x hx => ?_, fun x hx => ?_⟩, by rw [hL]; exact h4, hLS⟩
          · obtain ⟨y, hy, g1, g2, g3⟩ := hLx i x hx
            obtain ⟨k0, k1, k2, _⟩ := e3 i y hy
            obtain ⟨kW, kH, _⟩ := key y (List.mem_of_getElem? hy)
            refine ⟨by rw [k0, kW], by rw [k1, kH], ?_⟩
            rw [k2, g1, g2, g3]; rfl
          · obtain ⟨i, hi⟩ := List.getElem?_of_mem hx
            obtain ⟨y, hy, g1, g2, g3⟩ := hLx i x hi
            have hym := List.mem_of_getElem? hy
            obtain ⟨_, _, kl⟩ := key y hym
            obtain ⟨gx, ox, f1, f2, f3⟩ := cell y hym
            rw [g1] at f1
            injection f1 with f1
            injection f1 with f1 f4
            rw [← f1, ← f4] at f3
            refine ⟨by rw [← g2]; exact kl, by rw [← g2, ← g3]; exact f2, by rw [← g2]; exact f3, by rw [← g2]; exact hlt y hym⟩
        · rw [if_neg h4] at hc; exact absurd hc (by decide)
      · rw [if_neg h3] at hc; exact absurd hc (by decide)
    · rw [if_neg h2] at hc; exact absurd hc h2
  · rw [if_neg h1] at hc; exact absurd hc (by decide)
end Go.Proofs.YtkgojnjlfkijiaaGreat
/- YCC: what ToYCC and FromYCC return. -/
namespace Go.Proofs.YtkgojnjlfkijiaaGreat
open Go.RowKit
set_option linter.unusedVariables false

def yS (r b : Nat) : Nat := opT .add (wideW r) (wideW b)
def yD (g : Nat) : Nat := opT .mul 4611686018427387904 (wideW g)
def ycc0 (r g b : Nat) : Nat := narW (opT .quo (opT .add (yS r b) (yD g)) 4616189618054758400)
def ycc1 (r g b : Nat) : Nat := narW (opT .quo (opT .sub (yD g) (yS r b)) 4616189618054758400)
def ycc2 (r g b : Nat) : Nat := narW (opT .quo (opT .sub (wideW r) (wideW b)) 4611686018427387904)
def rT (y cg : Nat) : Nat := opT .sub (wideW y) (wideW cg)
def rgb0 (y cg co : Nat) : Nat := narW (opT .add (rT y cg) (wideW co))
def rgb1 (y cg co : Nat) : Nat := narW (opT .add (wideW y) (wideW cg))
def rgb2 (y cg co : Nat) : Nat := narW (opT .sub (rT y cg) (wideW co))
theorem ret_a3 {a b c x y z : Nat} (h : a = x) (g : b = y) (k : c = z) : Value.agg #[.int .u32 (a : Nat), .int .u32 (b : Nat), .int .u32 (c : Nat)] = a3 x y z := by rw [h, g, k]; rfl
theorem can_2 : canW 4611686018427387904 = 4611686018427387904 := by decide +kernel
theorem can_4 : canW 4616189618054758400 = 4616189618054758400 := by decide +kernel
end Go.Proofs.YtkgojnjlfkijiaaGreat
/- By powers of two, in binary64. -/
namespace Go.Proofs.YtkgojnjlfkijiaaGreat
open Go.RowKit
set_option linter.unusedVariables false

theorem told64_num (s : Bool) (m : Nat) (p : Int) : told64 (some (.number s m p)) = Ieee.double.word s (rungOf Ieee.double m p) := by
  rw [told64_some rfl]; show Ieee.double.nearest s m p = _; rw [nearest_rung]
theorem told64_inf (s : Bool) : told64 (some (.infinity s)) = Ieee.double.word s 9218868437227405312 := by
  rw [told64_some rfl]; show Ieee.double.word s Ieee.double.infRung = _; rw [inf64]
theorem mul_power64 (s : Bool) (m : Nat) (p q : Int) : told64 ((Ieee.Datum.number s m p).product (.number false 4503599627370496 q)) = Ieee.double.word s (rungOf Ieee.double m (p + q + 52)) := by
  show told64 (some (.number (s ^^ false) (m * 2 ^ 52) (p + q))) = _
  rw [xor_f, told64_num, rung_scale]; rfl
theorem quo_power64 (s : Bool) {m : Nat} (hm : m < 9007199254740992) (p q : Int) : told64 ((Ieee.Datum.number s m p).quotient 54 (.number false 4503599627370496 q)) = Ieee.double.word s (rungOf Ieee.double m (p - q - 52)) := by
  have hl2 : (4503599627370496 : Nat).log2 = 52 := by decide
  have hl : m.log2 ≤ 52 := by
    by_cases h0 : m = 0
    · subst h0; decide
    · have := (Nat.log2_lt h0).2 (show m < 2 ^ 53 from hm); omega
  obtain ⟨B, hB⟩ : ∃ B, B = 54 + (4503599627370496 : Nat).log2 - m.log2 := ⟨_, rfl⟩
  have hB1 : 54 ≤ B := by omega
  have em : (Ieee.Datum.number s m p).quotient 54 (.number false 4503599627370496 q) = some (.number (s ^^ false) (2 * ((m <<< B) / 4503599627370496) + ((m <<< B) % 4503599627370496 != 0).toNat) (p - q - (B : Int) - 1)) := by
    rw [hB]; simp [Ieee.Datum.quotient]
  have e1 : m <<< B = m * 2 ^ (B - 52) * 4503599627370496 := by
    rw [Nat.shiftLeft_eq, Nat.mul_assoc, show (4503599627370496 : Nat) = 2 ^ 52 from rfl, ← Nat.pow_add, show B - 52 + 52 = B by omega]
  rw [em, e1, Nat.mul_div_cancel _ (by decide), Nat.mul_mod_left, xor_f, told64_num]
  refine congrArg (Ieee.double.word s) ?_
  show rungOf Ieee.double (2 * (m * 2 ^ (B - 52)) + 0) _ = _
  have e2 : 2 * (m * 2 ^ (B - 52)) + 0 = m * 2 ^ (B - 51) := by
    rw [show B - 51 = (B - 52) + 1 by omega, Nat.pow_succ, Nat.add_zero, Nat.mul_comm 2, Nat.mul_assoc]
  rw [e2, rung_scale]
  congr 1; omega
/-- A word times 2^n, rounded. -/
def shfR (n : Int) : RNum → RNum
  | ⟨some (.inr (s, m, e, g))⟩ => .fin s m (e + n) g
  | x => x
def shfW (x : Nat) (n : Int) : Nat := roundD (shfR n (numOf Ieee.double x))
theorem shfW_nan {x : Nat} (h : (Ieee.double.read x).isNaN = true) (n : Int) : shfW x n = 9221120237041090560 := by
  obtain ⟨s, t, e⟩ := isNaN_cases h
  unfold shfW; rw [numOf_datum, e]; rfl
theorem shfW_inf {x : Nat} {s : Bool} (h : Ieee.double.read x = .infinity s) (n : Int) : shfW x n = Ieee.double.word s 9218868437227405312 := by
  unfold shfW; rw [numOf_datum, h]; rfl
theorem shfW_num {x : Nat} {s : Bool} {m : Nat} {p : Int} (h : Ieee.double.read x = .number s m p) (n : Int) : shfW x n = Ieee.double.word s (rungOf Ieee.double m (p + n)) := by
  unfold shfW; rw [numOf_datum, h]
  show roundD (.fin s m (p + n) false) = _
  rw [roundD_fin', nearest_rung]
theorem read_mag {x : Nat} {s : Bool} {m : Nat} {p : Int} (h : Ieee.double.read x = .number s m p) : m < 9007199254740992 := by
  rcases Nat.lt_trichotomy (rung64 x) 9218868437227405312 with g | g | g
  · rw [read_fin64 g] at h
    injection h with _ h _
    rw [← h]; exact mag_lt64 _
  · rw [read_inf64 g] at h; cases h
  · rw [read_nan64 g] at h; cases h
theorem quo_shf (x c : Nat) (q n : Int) (hc : Ieee.double.read c = .number false 4503599627370496 q) (hn : n = -q - 52) : opT .quo x c = shfW x n := by
  unfold opT opD
  rw [hc]
  dsimp only
  cases h : Ieee.double.read x with
  | nan s t => rw [shfW_nan (by rw [h]; rfl)]; rfl
  | infinity s =>
    rw [shfW_inf h, show (Ieee.Datum.infinity s).quotient 54 (.number false 4503599627370496 q) = some (.infinity (s ^^ false)) from rfl, told64_inf, xor_f]
  | number s m p =>
    rw [shfW_num h, quo_power64 s (read_mag h)]
    congr 2; omega
theorem mul_shf (x c : Nat) (q n : Int) (hc : Ieee.double.read c = .number false 4503599627370496 q) (hn : n = q + 52) : opT .mul x c = shfW x n := by
  unfold opT opD
  rw [hc]
  dsimp only
  cases h : Ieee.double.read x with
  | nan s t => rw [shfW_nan (by rw [h]; rfl)]; rfl
  | infinity s =>
    rw [shfW_inf h, show (Ieee.Datum.infinity s).product (.number false 4503599627370496 q) = some (.infinity (s ^^ false)) from rfl, told64_inf, xor_f]
  | number s m p =>
    rw [shfW_num h, mul_power64 s]
    congr 2; omega
theorem opT_comm (x y : Nat) : opT .mul x y = opT .mul y x := by
  unfold opT opD; dsimp only; rw [product_comm]
theorem read_c2 : Ieee.double.read 4611686018427387904 = .number false 4503599627370496 (-51) := by decide
theorem read_c4 : Ieee.double.read 4616189618054758400 = .number false 4503599627370496 (-50) := by decide
theorem read_c23 : Ieee.double.read 4710765210229538816 = .number false 4503599627370496 (-29) := by decide
theorem quo_4 (x : Nat) : opT .quo x 4616189618054758400 = shfW x (-2) := quo_shf x _ _ _ read_c4 (by omega)
theorem quo_2 (x : Nat) : opT .quo x 4611686018427387904 = shfW x (-1) := quo_shf x _ _ _ read_c2 (by omega)
theorem mul_2 (x : Nat) : opT .mul 4611686018427387904 x = shfW x 1 := by rw [opT_comm]; exact mul_shf x _ _ _ read_c2 (by omega)
theorem quo_23 (x : Nat) : opT .quo x 4710765210229538816 = shfW x (-23) := quo_shf x _ _ _ read_c23 (by omega)
theorem mul_23 (x : Nat) : opT .mul x 4710765210229538816 = shfW x 23 := mul_shf x _ _ _ read_c23 (by omega)
theorem opT_add (x y : Nat) : opT .add x y = add64V x y := rfl
end Go.Proofs.YtkgojnjlfkijiaaGreat
/- Plain facts: roots with one bit that tells what is left; rounding a root twice; the model's root. -/
namespace Go.Proofs.YtkgojnjlfkijiaaGreat
open Go.RowKit

/-- The whole root. -/
structure IsRoot (n r : Nat) : Prop where
  lo : r * r ≤ n
  hi : n < (r + 1) * (r + 1)
theorem root_unique {n r s : Nat} (h : IsRoot n r) (g : IsRoot n s) : r = s := by
  rcases Nat.lt_trichotomy r s with k | k | k
  · have := Nat.mul_le_mul (show r + 1 ≤ s from k) (show r + 1 ≤ s from k)
    have := h.hi; have := g.lo; omega
  · exact k
  · have := Nat.mul_le_mul (show s + 1 ≤ r from k) (show s + 1 ≤ r from k)
    have := g.hi; have := h.lo; omega
/-- The root's digits, and one more that tells of a rest. -/
def srV (n r : Nat) : Nat := 2 * r + if r * r = n then 0 else 1
theorem sq_pow (q k : Nat) : q * 2 ^ k * (q * 2 ^ k) = q * q * 4 ^ k := by
  rw [Nat.mul_mul_mul_comm, ← Nat.mul_pow]
theorem root_cut {n R k : Nat} (h : IsRoot (n * 4 ^ k) R) : IsRoot n (R / 2 ^ k) := by
  have hk := Nat.two_pow_pos k
  have h4 : 0 < 4 ^ k := Nat.pow_pos (by decide)
  have d := Nat.div_add_mod R (2 ^ k)
  have m := Nat.mod_lt R hk
  have e1 : R / 2 ^ k * 2 ^ k ≤ R := by rw [Nat.mul_comm]; omega
  have e2 : R + 1 ≤ (R / 2 ^ k + 1) * 2 ^ k := by rw [Nat.add_mul, Nat.one_mul, Nat.mul_comm]; omega
  constructor
  · have := Nat.mul_le_mul e1 e1
    rw [sq_pow] at this
    exact Nat.le_of_mul_le_mul_right (Nat.le_trans this h.lo) h4
  · have := Nat.mul_le_mul e2 e2
    rw [sq_pow] at this
    exact Nat.lt_of_mul_lt_mul_right (Nat.lt_of_lt_of_le h.hi this)
theorem sr_stick {n R k : Nat} (h : IsRoot (n * 4 ^ k) R) : stick (srV (n * 4 ^ k) R) (k + 1) = srV n (R / 2 ^ k) := by
  have hk := Nat.two_pow_pos k
  have h4 : 0 < 4 ^ k := Nat.pow_pos (by decide)
  have hc := root_cut h
  have d := Nat.div_add_mod R (2 ^ k)
  have m := Nat.mod_lt R hk
  have flag : R / 2 ^ k * (R / 2 ^ k) = n ↔ R % 2 ^ k = 0 ∧ R * R = n * 4 ^ k := by
    constructor
    · intro e
      have e1 : IsRoot (n * 4 ^ k) (R / 2 ^ k * 2 ^ k) := by
        have e2 : R / 2 ^ k * 2 ^ k * (R / 2 ^ k * 2 ^ k) = n * 4 ^ k := by rw [sq_pow, e]
        refine ⟨by omega, ?_⟩
        rw [← e2]
        have : (R / 2 ^ k * 2 ^ k) * (R / 2 ^ k * 2 ^ k) < (R / 2 ^ k * 2 ^ k + 1) * (R / 2 ^ k * 2 ^ k + 1) := Nat.mul_lt_mul_of_lt_of_le (by omega) (by omega) (by omega)
        exact this
      have e3 := root_unique h e1
      refine ⟨by rw [Nat.mul_comm] at e3; omega, ?_⟩
      rw [e3, sq_pow, e]
    · rintro ⟨e1, e2⟩
      have e3 : R = R / 2 ^ k * 2 ^ k := by rw [Nat.mul_comm]; omega
      rw [e3, sq_pow] at e2
      exact Nat.eq_of_mul_eq_mul_right h4 e2
  have ep : 2 ^ (k + 1) = 2 * 2 ^ k := by rw [Nat.pow_succ]; omega
  unfold stick srV
  obtain ⟨b, hb⟩ : ∃ b, b = if R * R = n * 4 ^ k then 0 else 1 := ⟨_, rfl⟩
  have hb2 : b < 2 := by rw [hb]; split <;> omega
  have hbR : b = 0 ↔ R * R = n * 4 ^ k := by rw [hb]; split <;> omega
  rw [← hb]
  have f1 : (2 * R + b) / 2 ^ (k + 1) = R / 2 ^ k := by
    rw [ep, ← Nat.div_div_eq_div_mul, show (2 * R + b) / 2 = R by omega]
  have f2 : (2 * R + b) % 2 ^ (k + 1) = 2 * (R % 2 ^ k) + b := by
    have g := Nat.div_add_mod (2 * R + b) (2 ^ (k + 1))
    rw [f1, ep] at g
    rw [ep]
    have g2 : 2 * 2 ^ k * (R / 2 ^ k) = 2 * (2 ^ k * (R / 2 ^ k)) := Nat.mul_assoc _ _ _
    omega
  rw [f1, f2]
  by_cases e : R / 2 ^ k * (R / 2 ^ k) = n
  · obtain ⟨a1, a2⟩ := flag.1 e
    rw [if_pos e, if_pos (by have := hbR.2 a2; omega)]
  · rw [if_neg e, if_neg]
    intro h'
    exact e (flag.2 ⟨by omega, hbR.1 (by omega)⟩)
theorem sr_link (f : Ieee.Format) {n R k : Nat} (x : Int) (h : IsRoot (n * 4 ^ k) R) (hq : 2 ^ (f.fractionBits + 1) ≤ R / 2 ^ k) :
    rungOf f (srV (n * 4 ^ k) R) (x - k - 1) = rungOf f (srV n (R / 2 ^ k)) (x - 1) := by
  have h1 : 2 ^ (f.fractionBits + 1 + k) ≤ R := by
    rw [Nat.pow_add]
    exact (Nat.le_div_iff_mul_le (Nat.two_pow_pos k)).1 hq
  have h2 : 2 ^ (f.fractionBits + 2 + k) ≤ srV (n * 4 ^ k) R := by
    unfold srV
    rw [show f.fractionBits + 2 + k = f.fractionBits + 1 + k + 1 by omega, Nat.pow_succ]
    omega
  have hM : srV (n * 4 ^ k) R ≠ 0 := by have := Nat.two_pow_pos (f.fractionBits + 2 + k); omega
  have hlog : f.fractionBits + 2 + k ≤ (srV (n * 4 ^ k) R).log2 := (Nat.le_log2 hM).2 h2
  have := rung_stick f (M := srV (n * 4 ^ k) R) (k := k + 1) (x - k - 1) (by omega) hM (by unfold lastOf; omega)
  rw [sr_stick h] at this
  rw [← this]
  congr 1; omega

/-- The model's search. -/
theorem rootFrom_to (n : Nat) : ∀ (todo r : Nat), r * r ≤ n → n < (r + 2 ^ todo) * (r + 2 ^ todo) → IsRoot n (Ieee.Datum.rootFrom n todo r) := by
  intro todo
  induction todo with
  | zero =>
    intro r h1 h2
    exact ⟨h1, h2⟩
  | succ t ih =>
    intro r h1 h2
    unfold Ieee.Datum.rootFrom
    dsimp only
    rw [Nat.shiftLeft_eq, Nat.one_mul]
    by_cases g : (r + 2 ^ t) * (r + 2 ^ t) ≤ n
    · rw [if_pos g]
      refine ih _ g ?_
      rw [Nat.pow_succ] at h2
      rw [show r + 2 ^ t + 2 ^ t = r + 2 ^ t * 2 by omega]; exact h2
    · rw [if_neg g]
      exact ih _ h1 (by omega)
theorem root_whole (n : Nat) : IsRoot n (Ieee.Datum.rootFrom n (n.log2 / 2 + 1) 0) := by
  refine rootFrom_to n _ 0 (Nat.zero_le _) ?_
  have h2 : n < 2 ^ (n.log2 + 1) := Nat.lt_log2_self
  rw [Nat.zero_add, ← Nat.pow_add]
  exact Nat.lt_of_lt_of_le h2 (Nat.pow_le_pow_right (by decide) (by omega))

/-- Rounding a root twice doesn't show. -/
theorem twice {S n' r : Nat} (hr : IsRoot n' r) (hS : S = srV n' r) (h0 : 2 ^ 54 ≤ r) (h1 : r < 2 ^ 55) (hd : 2 ^ 61 ∣ n') : rne (rne S 3 * 8) 32 = rne S 32 := by
  obtain ⟨n1, n2⟩ := rne_near S 3
  obtain ⟨c, hc⟩ : ∃ c, c = rne S 3 := ⟨_, rfl⟩
  rw [← hc] at n1 n2 ⊢
  have e8 : (2 : Nat) ^ 3 = 8 := rfl
  rw [e8] at n1 n2
  have hS2 : S = 2 * r ∨ S = 2 * r + 1 := by rw [hS]; unfold srV; split <;> omega
  have hno : c * 8 % 4294967296 ≠ 2147483648 := by
    intro hm
    obtain ⟨q, hq⟩ : ∃ q, c * 8 = (2 * q + 1) * 2147483648 := ⟨c * 8 / 4294967296, by omega⟩
    obtain ⟨v, hv⟩ := hd
    have hC : c * 8 ≤ 2 ^ 57 := by omega
    -- 4 n' lies about the square of it
    obtain ⟨C, hCe⟩ : ∃ C, C = c * 8 := ⟨_, rfl⟩
    rw [← hCe] at hq hC n1 n2
    have a1 : C ≤ 2 * r + 5 := by omega
    have a2 : 2 * r + 2 ≤ C + 6 := by omega
    have b1 := hr.lo
    have b2 := hr.hi
    have s1 : C * C ≤ (2 * r + 5) * (2 * r + 5) := Nat.mul_le_mul a1 a1
    have s2 : (2 * r + 2) * (2 * r + 2) ≤ (C + 6) * (C + 6) := Nat.mul_le_mul a2 a2
    have t1 : (2 * r + 5) * (2 * r + 5) = 4 * (r * r) + 20 * r + 25 := by
      simp only [Nat.add_mul, Nat.mul_add, Nat.mul_assoc, Nat.mul_left_comm r 2]
      omega
    have t2 : (2 * r + 2) * (2 * r + 2) = 4 * ((r + 1) * (r + 1)) := by
      rw [show 2 * r + 2 = 2 * (r + 1) by omega, Nat.mul_mul_mul_comm]
    have t3 : (C + 6) * (C + 6) = C * C + 12 * C + 36 := by
      simp only [Nat.add_mul, Nat.mul_add]
      omega
    have t4 : C * C = (2 * q + 1) * (2 * q + 1) * 4611686018427387904 := by
      rw [hq, Nat.mul_mul_mul_comm]
    have t5 : (2 * q + 1) * (2 * q + 1) = 2 * (2 * (q * q) + 2 * q) + 1 := by
      simp only [Nat.add_mul, Nat.mul_add, Nat.mul_assoc, Nat.mul_left_comm q 2]
      omega
    rw [t5] at t4
    have e61 : (2 : Nat) ^ 61 = 2305843009213693952 := by decide
    rw [e61] at hv
    generalize q * q = qq at t4
    generalize C * C = CC at *
    generalize r * r = rr at *
    generalize (r + 1) * (r + 1) = rp at *
    omega
  have h32 : (2 : Nat) ^ 32 = 4294967296 := by decide
  have g1 : rne (c * 8) 32 = c * 8 / 4294967296 ∧ c * 8 % 4294967296 < 2147483648 ∨ rne (c * 8) 32 = c * 8 / 4294967296 + 1 ∧ 2147483648 < c * 8 % 4294967296 := by
    unfold rne
    by_cases g : goesUp (c * 8) 32
    · rw [if_pos g, h32]
      unfold goesUp at g
      rw [h32] at g
      right; exact ⟨rfl, by omega⟩
    · rw [if_neg g, h32]
      unfold goesUp at g
      rw [h32] at g
      left; exact ⟨rfl, by omega⟩
  have g2 : rne S 32 = S / 4294967296 ∧ S % 4294967296 ≤ 2147483648 ∨ rne S 32 = S / 4294967296 + 1 ∧ 2147483648 ≤ S % 4294967296 := by
    unfold rne
    by_cases g : goesUp S 32
    · rw [if_pos g, h32]
      unfold goesUp at g
      rw [h32] at g
      right; exact ⟨rfl, by omega⟩
    · rw [if_neg g, h32]
      unfold goesUp at g
      rw [h32] at g
      left; exact ⟨rfl, by omega⟩
  generalize rne (c * 8) 32 = x at g1 ⊢
  generalize rne S 32 = y at g2 ⊢
  have hc8 : c * 8 % 8 = 0 := Nat.mul_mod_left _ _
  generalize c * 8 = C at *
  omega
end Go.Proofs.YtkgojnjlfkijiaaGreat
