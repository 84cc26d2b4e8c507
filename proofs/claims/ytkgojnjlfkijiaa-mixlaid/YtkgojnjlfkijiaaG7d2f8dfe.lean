/- Lifting: keys that go round; what Lift and Drop return, the program's and the document's. -/
import Derived.Test.YtkgojnjlfkijiaaG355830f6
import Derived.Test.YtkgojnjlfkijiaaGddcc606e
import Derived.Test.YtkgojnjlfkijiaaG929df17d
import Derived.Test.YtkgojnjlfkijiaaGe4e6574e
import Derived.Test.YtkgojnjlfkijiaaGfac5606e
import Derived.Test.YtkgojnjlfkijiaaG08a7e663
namespace Go.Proofs.Ytkgojnjlfkijiaa
open Go.RowKit
set_option linter.unusedVariables false

/-- A half, rounded down, of a number that goes round 2^32. -/
def hlfN (d : Nat) : Nat := if d < 2147483648 then d / 2 else d / 2 + 2147483648
theorem hlfN_lt {d : Nat} (h : d < 4294967296) : hlfN d < 4294967296 := by unfold hlfN; split <;> omega
def addN (a b : Nat) : Nat := (a + b) % 4294967296
def lesN (a b : Nat) : Nat := (a + 4294967296 - b) % 4294967296
theorem addN_lt (a b : Nat) : addN a b < 4294967296 := Nat.mod_lt _ (by decide)
theorem lesN_lt (a b : Nat) : lesN a b < 4294967296 := Nat.mod_lt _ (by decide)
theorem addN_comm (a b : Nat) : addN a b = addN b a := by unfold addN; rw [Nat.add_comm]
theorem add_e (a b : Nat) : ((a : Int) + (b : Int)) % 4294967296 = (addN a b : Nat) := by unfold addN; omega
theorem sub_e (a b : Nat) (hb : b < 4294967296) : ((a : Int) - (b : Int)) % 4294967296 = (lesN a b : Nat) := by unfold lesN; omega
theorem add_h (a : Nat) : ((a : Int) + 2147483648) % 4294967296 = (addN a 2147483648 : Nat) := by unfold addN; omega
theorem sub_h (a : Nat) : ((a : Int) - 2147483648) % 4294967296 = (lesN a 2147483648 : Nat) := by unfold lesN; omega
theorem sp_drewN {a b : World} (h : Q a b) (n : Nat) : Q a (b.drewN n) := h.trans ⟨⟨rfl, rfl, rfl, Nat.le_refl _, fun _ _ => rfl⟩, fun _ => rfl⟩
def lcoN (r b : Nat) : Nat := lesN (keyN r) (keyN b)
def ltN (r b : Nat) : Nat := addN (keyN b) (hlfN (lcoN r b))
def lcgN (r g b : Nat) : Nat := lesN (keyN g) (ltN r b)
def lyN (r g b : Nat) : Nat := addN (ltN r b) (hlfN (lcgN r g b))
def lift0 (r g b : Nat) : Nat := fkeyN (lyN r g b)
def lift1 (r g b : Nat) : Nat := fkeyN (addN (lcgN r g b) 2147483648)
def lift2 (r g b : Nat) : Nat := fkeyN (addN (lcoN r b) 2147483648)
def dfN (d : Nat) : Nat := lesN (keyN d) 2147483648
def dtN (y cg : Nat) : Nat := lesN (keyN y) (hlfN (dfN cg))
def dbN (y cg co : Nat) : Nat := lesN (dtN y cg) (hlfN (dfN co))
def drop0 (y cg co : Nat) : Nat := fkeyN (addN (dbN y cg co) (dfN co))
def drop1 (y cg co : Nat) : Nat := fkeyN (addN (dfN cg) (dtN y cg))
def drop2 (y cg co : Nat) : Nat := fkeyN (dbN y cg co)
def a3 (x y z : Nat) : Value := .agg #[.int .u32 (x : Nat), .int .u32 (y : Nat), .int .u32 (z : Nat)]
def t3 (x y z : Nat) : Value := .tuple #[.int .u32 (x : Nat), .int .u32 (y : Nat), .int .u32 (z : Nat)]
/-- A method's three samples in a box, and the box of its answer. -/
structure B3 (w wz : World) (r g b : Nat) : Prop where
  q : Q w wz
  d0 : wz.cell? ⟨w.heap.size + 1, 0, none⟩ = some (.int .u32 (r : Int))
  d1 : wz.cell? ⟨w.heap.size + 1, 1, none⟩ = some (.int .u32 (g : Int))
  d2 : wz.cell? ⟨w.heap.size + 1, 2, none⟩ = some (.int .u32 (b : Int))
  k0 : wz.cell? ⟨w.heap.size + 1 + 1, 0, none⟩ = some (.int .u32 0)
  k1 : wz.cell? ⟨w.heap.size + 1 + 1, 1, none⟩ = some (.int .u32 0)
  k2 : wz.cell? ⟨w.heap.size + 1 + 1, 2, none⟩ = some (.int .u32 0)
  f0 : wz.frozen? ⟨w.heap.size + 1 + 1, 0, none⟩ = false
  f1 : wz.frozen? ⟨w.heap.size + 1 + 1, 1, none⟩ = false
  f2 : wz.frozen? ⟨w.heap.size + 1 + 1, 2, none⟩ = false
theorem B3.next {w wz w4 : World} {r g b : Nat} (h : B3 w wz r g b) (q : Q wz w4) : B3 w w4 r g b :=
  ⟨h.q.trans q, q.cell h.d0, q.cell h.d1, q.cell h.d2, q.cell h.k0, q.cell h.k1, q.cell h.k2, (q.2 _).trans h.f0, (q.2 _).trans h.f1, (q.2 _).trans h.f2⟩
theorem and_low32 (n : Int) : bits .and .i64 n 4294967295 = n % 4294967296 := by
  show IntKind.i64.wrap ((BitVec.ofInt 64 n &&& BitVec.ofInt 64 4294967295).toNat : Int) = _
  rw [BitVec.toNat_and, BitVec.toNat_ofInt, BitVec.toNat_ofInt, show ((4294967295 : Int) % ((2 ^ 64 : Nat) : Int)).toNat = 2 ^ 32 - 1 from by decide, Nat.and_two_pow_sub_one_eq_mod, IntKind.wrap_i64]
  omega
theorem tm_even {n : Int} (h : n % 2 = 0) : n.tmod 2 = 0 := Int.tmod_eq_zero_of_dvd (by omega)
theorem tm_odd {n : Int} (h : n % 2 = 1) : n.tmod 2 ≠ 0 := fun e => by have := Int.dvd_of_tmod_eq_zero e; omega
theorem td_even {n : Int} (h : n % 2 = 0) : n.tdiv 2 = n / 2 := by
  obtain ⟨k, rfl⟩ : ∃ k, n = 2 * k := ⟨n / 2, by omega⟩
  rw [Int.mul_tdiv_cancel_left _ (by decide)]; omega
end Go.Proofs.Ytkgojnjlfkijiaa
/- Mixing: what is done to the first three samples of each place. -/
namespace Go.Proofs.Ytkgojnjlfkijiaa
open Go.RowKit
set_option linter.unusedVariables false
set_option linter.unusedSimpArgs false

/-- A function of three samples. -/
structure Fun3 (f : FuncId) (recv : Value) (F0 F1 F2 : Nat → Nat → Nat → Nat) : Prop where
  en : ∀ (args : Array Value) (x : World), (callFunc f args).run Try.prog x = .ok (.enter f args) x
  c : ∀ (r s t : Nat), r < 4294967296 → s < 4294967296 → t < 4294967296 → ∀ x : World, Calls Try.prog f #[recv, .agg #[.int .u32 (r : Int), .int .u32 (s : Int), .int .u32 (t : Int)]] x fun e x' => e = .returned (.agg #[.int .u32 ((F0 r s t : Nat) : Int), .int .u32 ((F1 r s t : Nat) : Int), .int .u32 ((F2 r s t : Nat) : Int)]) ∧ Q x x'
  lt : ∀ (r s t : Nat), r < 4294967296 → s < 4294967296 → t < 4294967296 → F0 r s t < 4294967296 ∧ F1 r s t < 4294967296 ∧ F2 r s t < 4294967296
theorem set_ex {w : World} {p : Addr} (q : Addr) (v : Value) (h : ∃ u, w.cell? p = some u) : ∃ u, (w.setCell q v).cell? p = some u := by
  obtain ⟨u, hu⟩ := h
  by_cases e : p = q
  · subst e; exact ⟨v, World.cell?_setCell_same _ _ _ hu⟩
  · exact ⟨u, (World.cell?_setCell_other _ _ _ _ (fun e' => e e'.symm)).trans hu⟩
/-- Three planes, the first i places mixed. -/
def mixT (F : Nat → Nat → Nat → Nat) (S0 S1 S2 S : List Nat) (i j : Nat) : Nat := if j < i then F (S0.getD j 0) (S1.getD j 0) (S2.getD j 0) else S.getD j 0
structure W3 (w1 wx : World) (y0 y1 y2 : PL) (N : Nat) (t0 t1 t2 : Nat → Nat) : Prop where
  u0 : ∀ j, j < N → wx.cell? ⟨y0.g, y0.o + j, none⟩ = some (.int .u32 ((t0 j : Nat) : Int))
  u1 : ∀ j, j < N → wx.cell? ⟨y1.g, y1.o + j, none⟩ = some (.int .u32 ((t1 j : Nat) : Int))
  u2 : ∀ j, j < N → wx.cell? ⟨y2.g, y2.o + j, none⟩ = some (.int .u32 ((t2 j : Nat) : Int))
  fr : Fr w1 wx (fun b => b ≠ y0.g ∧ b ≠ y1.g ∧ b ≠ y2.g)
  ex : ∀ (p : Addr) (v : Value), w1.cell? p = some v → ∃ u, wx.cell? p = some u
theorem W3.next {w1 wx wy : World} {y0 y1 y2 : PL} {N : Nat} {t0 t1 t2 : Nat → Nat} (h : W3 w1 wx y0 y1 y2 N t0 t1 t2) (q : Q wx wy) : W3 w1 wy y0 y1 y2 N t0 t1 t2 :=
  ⟨fun j hj => q.cell (h.u0 j hj), fun j hj => q.cell (h.u1 j hj), fun j hj => q.cell (h.u2 j hj), h.fr.trans (q.fr _), fun p v hp => by obtain ⟨u, hu⟩ := h.ex p v hp; exact ⟨u, q.cell hu⟩⟩
theorem W3.set {w1 wx : World} {y0 y1 y2 : PL} {N : Nat} {F0 F1 F2 : Nat → Nat → Nat → Nat} {S0 S1 S2 : List Nat} {i : Nat} (h : W3 w1 wx y0 y1 y2 N (mixT F0 S0 S1 S2 S0 i) (mixT F1 S0 S1 S2 S1 i) (mixT F2 S0 S1 S2 S2 i)) (hi : i < N) (n01 : y0.g ≠ y1.g) (n02 : y0.g ≠ y2.g) (n12 : y1.g ≠ y2.g)
    {U V Z : Nat} (hU : F0 (S0.getD i 0) (S1.getD i 0) (S2.getD i 0) = U) (hV : F1 (S0.getD i 0) (S1.getD i 0) (S2.getD i 0) = V) (hZ : F2 (S0.getD i 0) (S1.getD i 0) (S2.getD i 0) = Z) :
    W3 w1 (((wx.setCell ⟨y0.g, y0.o + i, none⟩ (.int .u32 (U : Int))).setCell ⟨y1.g, y1.o + i, none⟩ (.int .u32 (V : Int))).setCell ⟨y2.g, y2.o + i, none⟩ (.int .u32 (Z : Int))) y0 y1 y2 N (mixT F0 S0 S1 S2 S0 (i + 1)) (mixT F1 S0 S1 S2 S1 (i + 1)) (mixT F2 S0 S1 S2 S2 (i + 1)) := by
  have key : ∀ (F : Nat → Nat → Nat → Nat) (S : List Nat) (j : Nat), j ≠ i → mixT F S0 S1 S2 S (i + 1) j = mixT F S0 S1 S2 S i j := fun F S j hj => by
    unfold mixT
    by_cases h : j < i
    · rw [if_pos h, if_pos (by omega)]
    · rw [if_neg h, if_neg (by omega)]
  have key2 : ∀ (F : Nat → Nat → Nat → Nat) (S : List Nat), mixT F S0 S1 S2 S (i + 1) i = F (S0.getD i 0) (S1.getD i 0) (S2.getD i 0) := fun F S => by
    unfold mixT; rw [if_pos (by omega)]
  refine ⟨fun j hj => ?_, fun j hj => ?_, fun j hj => ?_, ?_, fun p v hp => set_ex _ _ (set_ex _ _ (set_ex _ _ (h.ex p v hp)))⟩
  · rw [World.cell?_setCell_other _ _ _ _ (by simp <;> omega), World.cell?_setCell_other _ _ _ _ (by simp <;> omega)]
    by_cases e : j = i
    · subst e; rw [key2, hU]; exact World.cell?_setCell_same _ _ _ (h.u0 j hj)
    · rw [World.cell?_setCell_other _ _ _ _ (by simp <;> omega), key _ _ _ e]; exact h.u0 j hj
  · rw [World.cell?_setCell_other _ _ _ _ (by simp <;> omega)]
    by_cases e : j = i
    · subst e; rw [key2, hV]
      exact World.cell?_setCell_same _ _ _ ((World.cell?_setCell_other _ _ _ _ (by simp <;> omega)).trans (h.u1 j hj))
    · rw [World.cell?_setCell_other _ _ _ _ (by simp <;> omega), World.cell?_setCell_other _ _ _ _ (by simp <;> omega), key _ _ _ e]; exact h.u1 j hj
  · by_cases e : j = i
    · subst e; rw [key2, hZ]
      exact World.cell?_setCell_same _ _ _ ((World.cell?_setCell_other _ _ _ _ (by simp <;> omega)).trans ((World.cell?_setCell_other _ _ _ _ (by simp <;> omega)).trans (h.u2 j hj)))
    · rw [World.cell?_setCell_other _ _ _ _ (by simp <;> omega), World.cell?_setCell_other _ _ _ _ (by simp <;> omega), World.cell?_setCell_other _ _ _ _ (by simp <;> omega), key _ _ _ e]; exact h.u2 j hj
  · exact ((h.fr.set (fun h => h.1 rfl) _).set (fun h => h.2.1 rfl) _).set (fun h => h.2.2 rfl) _
def mix3 (F : Nat → Nat → Nat → Nat) (S0 S1 S2 : List Nat) : List Nat := (List.range S0.length).map fun i => F (S0.getD i 0) (S1.getD i 0) (S2.getD i 0)
theorem mix3_len (F : Nat → Nat → Nat → Nat) (S0 S1 S2 : List Nat) : (mix3 F S0 S1 S2).length = S0.length := by simp [mix3]
theorem mix3_get {F : Nat → Nat → Nat → Nat} {S0 S1 S2 : List Nat} {i : Nat} (h : i < S0.length) : (mix3 F S0 S1 S2).getD i 0 = F (S0.getD i 0) (S1.getD i 0) (S2.getD i 0) := by
  unfold mix3
  rw [List.getD_eq_getElem?_getD, List.getElem?_map, List.getElem?_range h]; rfl
/-- The planes of a picture whose first three are mixed. -/
def mixL (F0 F1 F2 : Nat → Nat → Nat → Nat) : List (List Nat) → List (List Nat)
  | S0 :: S1 :: S2 :: r => mix3 F0 S0 S1 S2 :: mix3 F1 S0 S1 S2 :: mix3 F2 S0 S1 S2 :: r
  | l => l
theorem mixT_all (F : Nat → Nat → Nat → Nat) (S0 S1 S2 S : List Nat) {N j : Nat} (hN : S0.length = N) (hj : j < N) : mixT F S0 S1 S2 S N j = (mix3 F S0 S1 S2).getD j 0 := by
  unfold mixT; rw [if_pos hj, mix3_get (by omega)]
theorem Mine.mixed {lo N : Nat} {w4 wr : World} {y : PL} (h : Mine lo w4 N y) (hsz : w4.heap.size ≤ wr.heap.size) (fz : ∀ p, wr.frozen? p = w4.frozen? p) (ex : ∀ (p : Addr) (v : Value), w4.cell? p = some v → ∃ u, wr.cell? p = some u) {T : List Nat} (hT : T.length = N) (hu : ∀ j, j < N → wr.cell? ⟨y.g, y.o + j, none⟩ = some (.int .u32 ((T.getD j 0 : Nat) : Int))) (hlt : ∀ i, T.getD i 0 < 4294967296) : Mine lo wr N { y with S := T } :=
  ⟨h.o, h.low, Nat.lt_of_lt_of_le h.high hsz, ⟨hT, by have := h.gd.room; have := h.gd.len; show T.length ≤ y.cap; omega, fun j hj => hu j (by have : j < T.length := hj; omega), hlt⟩, fun j => (fz _).trans (h.free j), fun j hj => by obtain ⟨u, hu⟩ := h.all j hj; exact ex _ _ hu, h.cm⟩
theorem mix3_lt {F : Nat → Nat → Nat → Nat} {S0 S1 S2 : List Nat} (h : ∀ i, F (S0.getD i 0) (S1.getD i 0) (S2.getD i 0) < 4294967296) (i : Nat) : (mix3 F S0 S1 S2).getD i 0 < 4294967296 := by
  by_cases hi : i < S0.length
  · rw [mix3_get hi]; exact h i
  · rw [List.getD_eq_getElem?_getD, List.getElem?_eq_none (by rw [mix3_len]; omega)]; decide
theorem Nw.mixed {lo g1 cap1 a b : Nat} {w4 wr : World} {y0 y1 y2 : PL} {Mr : List PL} (h : Nw lo w4 g1 cap1 a b (y0 :: y1 :: y2 :: Mr)) {S0 S1 S2 : List Nat} {F0 F1 F2 : Nat → Nat → Nat → Nat} (hS : y0.S = S0 ∧ y1.S = S1 ∧ y2.S = S2)
    (W : W3 w4 wr y0 y1 y2 (a * b) (mixT F0 S0 S1 S2 S0 (a * b)) (mixT F1 S0 S1 S2 S1 (a * b)) (mixT F2 S0 S1 S2 S2 (a * b))) (hlt : ∀ r s t, r < 4294967296 → s < 4294967296 → t < 4294967296 → F0 r s t < 4294967296 ∧ F1 r s t < 4294967296 ∧ F2 r s t < 4294967296) :
    Nw lo wr g1 cap1 a b ({ y0 with S := mix3 F0 S0 S1 S2 } :: { y1 with S := mix3 F1 S0 S1 S2 } :: { y2 with S := mix3 F2 S0 S1 S2 } :: Mr) := by
  obtain ⟨k0, k0'⟩ := h.it y0 (by simp)
  obtain ⟨k1, k1'⟩ := h.it y1 (by simp)
  obtain ⟨k2, k2'⟩ := h.it y2 (by simp)
  have l0 : S0.length = a * b := by rw [← hS.1]; exact k0.gd.len
  have l1 : S1.length = a * b := by rw [← hS.2.1]; exact k1.gd.len
  have l2 : S2.length = a * b := by rw [← hS.2.2]; exact k2.gd.len
  have b0 : ∀ i, S0.getD i 0 < 4294967296 := by rw [← hS.1]; exact k0.gd.lt
  have b1 : ∀ i, S1.getD i 0 < 4294967296 := by rw [← hS.2.1]; exact k1.gd.lt
  have b2 : ∀ i, S2.getD i 0 < 4294967296 := by rw [← hS.2.2]; exact k2.gd.lt
  have M0 : Mine lo wr (a * b) { y0 with S := mix3 F0 S0 S1 S2 } := k0.mixed W.fr.size W.fr.frz W.ex (by rw [mix3_len]; exact l0) (fun j hj => by rw [← mixT_all F0 S0 S1 S2 S0 l0 hj]; exact W.u0 j hj) (mix3_lt (fun i => (hlt _ _ _ (b0 i) (b1 i) (b2 i)).1))
  have M1 : Mine lo wr (a * b) { y1 with S := mix3 F1 S0 S1 S2 } := k1.mixed W.fr.size W.fr.frz W.ex (by rw [mix3_len]; exact l0) (fun j hj => by rw [← mixT_all F1 S0 S1 S2 S1 l0 hj]; exact W.u1 j hj) (mix3_lt (fun i => (hlt _ _ _ (b0 i) (b1 i) (b2 i)).2.1))
  have M2 : Mine lo wr (a * b) { y2 with S := mix3 F2 S0 S1 S2 } := k2.mixed W.fr.size W.fr.frz W.ex (by rw [mix3_len]; exact l0) (fun j hj => by rw [← mixT_all F2 S0 S1 S2 S2 l0 hj]; exact W.u2 j hj) (mix3_lt (fun i => (hlt _ _ _ (b0 i) (b1 i) (b2 i)).2.2))
  have hap := h.ap
  simp only [List.pairwise_cons, List.mem_cons] at hap
  obtain ⟨p0, p1, p2, p3⟩ := hap
  have it : ∀ x ∈ ({ y0 with S := mix3 F0 S0 S1 S2 } :: { y1 with S := mix3 F1 S0 S1 S2 } :: { y2 with S := mix3 F2 S0 S1 S2 } :: Mr : List PL), Mine lo wr (a * b) x ∧ x.g ≠ g1 := fun x hx => by
    simp only [List.mem_cons] at hx
    rcases hx with rfl | rfl | rfl | hx
    · exact ⟨M0, k0'⟩
    · exact ⟨M1, k1'⟩
    · exact ⟨M2, k2'⟩
    · obtain ⟨q1, q2⟩ := h.it x (by simp [hx])
      exact ⟨q1.keep W.fr ⟨fun e => p0 x (Or.inr (Or.inr hx)) e.symm, fun e => p1 x (Or.inr hx) e.symm, fun e => p2 x hx e.symm⟩, q2⟩
  have row : PIs wr g1 0 a b (y0 :: y1 :: y2 :: Mr) := W.fr.pis h.pc.row ⟨fun e => k0' e.symm, fun e => k1' e.symm, fun e => k2' e.symm⟩
  have vv : ∀ (y : PL) (T : List Nat), T.length = y.S.length → PL.v { y with S := T } = y.v := fun y T hT => by show Value.slice _ T.length _ = _; rw [hT]; rfl
  refine ⟨⟨h.pc.size, by simp, by have := h.pc.n4; simpa using this, fun i x hx => ?_, fun x hx => (it x hx).1.gd⟩, h.low, Nat.lt_of_lt_of_le h.high W.fr.size, by have := h.room; simpa using this, fun j => (W.fr.frz _).trans (h.free j), it, ?_⟩
  · match i, hx with
    | 0, hx =>
      have hx := Option.some.inj hx
      rw [← hx, vv y0 _ (by rw [mix3_len, hS.1])]
      exact row 0 y0 rfl
    | 1, hx =>
      have hx := Option.some.inj hx
      rw [← hx, vv y1 _ (by rw [mix3_len, l0, hS.2.1, l1])]
      exact row 1 y1 rfl
    | 2, hx =>
      have hx := Option.some.inj hx
      rw [← hx, vv y2 _ (by rw [mix3_len, l0, hS.2.2, l2])]
      exact row 2 y2 rfl
    | i + 3, hx => exact row (i + 3) x (by simpa using hx)
  · simp only [List.pairwise_cons, List.mem_cons]
    refine ⟨fun x hx => ?_, fun x hx => ?_, p2, p3⟩
    · rcases hx with rfl | rfl | hx
      · exact p0 y1 (Or.inl rfl)
      · exact p0 y2 (Or.inr (Or.inl rfl))
      · exact p0 x (Or.inr (Or.inr hx))
    · rcases hx with rfl | hx
      · exact p1 y2 (Or.inl rfl)
      · exact p1 x (Or.inr hx)
theorem run_store1 {ρ : Operand → Value} {o : Oper} {s u : Operand} (ho : o.op = .store 23 s u) {x : World} {p : Addr} {v : Int} {c : Value} (hs : ρ s = .pointer (some p)) (hu : ρ u = .int .u32 v) (hc : x.cell? p = some c) (hf : x.frozen? p = false) : (execOp ρ o).run Try.prog x = .ok .skip (x.setCell p (.int .u32 v)) := by
  obtain ⟨dst, op, ty, ps, af, g⟩ := o
  have ho : op = _ := ho
  subst ho
  simp [execOp, hs, hu, go_sem, hc, hf]
end Go.Proofs.Ytkgojnjlfkijiaa
/- Mixing: the walk. -/
namespace Go.Proofs.Ytkgojnjlfkijiaa
open Go.RowKit
end Go.Proofs.Ytkgojnjlfkijiaa
/- Sizes, borders: the program's and the document's. -/
namespace Go.Proofs.Ytkgojnjlfkijiaa
open Go.RowKit
set_option linter.unusedVariables false
set_option linter.unusedSimpArgs false

def sizeB (W H : Int) : Bool := decide (1 ≤ W) && decide (W ≤ 1024) && decide (1 ≤ H) && decide (H ≤ 1024) && decide (W * H ≤ 65536)
theorem sizeB_true {W H : Int} : sizeB W H = true ↔ SizeB W H := by
  unfold sizeB SizeB
  simp only [Bool.and_eq_true, decide_eq_true_eq]
  constructor
  · rintro ⟨⟨⟨⟨a, b⟩, c⟩, d⟩, e⟩; exact ⟨a, b, c, d, e⟩
  · rintro ⟨a, b, c, d, e⟩; exact ⟨⟨⟨⟨a, b⟩, c⟩, d⟩, e⟩
theorem sizeB_false {W H : Int} (h : ¬ SizeB W H) : sizeB W H = false := by
  cases g : sizeB W H
  · rfl
  · exact absurd (sizeB_true.1 g) h
def sideB (n : Int) : Bool := decide (1 ≤ n) && decide (n ≤ 1024)
theorem sizeB_eq (W H : Int) : sizeB W H = (sideB W && (sideB H && decide (W * H ≤ 65536))) := by
  unfold sizeB sideB
  cases decide (1 ≤ W) <;> cases decide (W ≤ 1024) <;> cases decide (1 ≤ H) <;> cases decide (H ≤ 1024) <;> rfl
theorem sideB_true {n : Int} : sideB n = true ↔ 1 ≤ n ∧ n ≤ 1024 := by
  unfold sideB; simp
theorem area_le {a b : Int} (ha : 1 ≤ a ∧ a ≤ 1024) (hb : 1 ≤ b ∧ b ≤ 1024) : 1 ≤ a * b ∧ a * b ≤ 1048576 := by
  have h1 : a * b ≤ 1024 * b := Int.mul_le_mul_of_nonneg_right ha.2 (by omega)
  have h2 : 1 * b ≤ a * b := Int.mul_le_mul_of_nonneg_right ha.1 (by omega)
  omega

theorem isSide_any (n : Int) (w : World) : Calls Try.prog 92 #[.int .i64 n] w fun e w' => e = .returned (.bool (sideB n)) ∧ w' = w := by
  by_cases h1 : 1 ≤ n
  · by_cases h2 : n ≤ 1024
    · have e : sideB n = true := sideB_true.2 ⟨h1, h2⟩
      rw [e]
      clear e
      go_enter Try.func92, Try.ntmps92
      go_wp2_with fail
      go_ret
      exact ⟨rfl, rfl⟩
    · have e : sideB n = false := by unfold sideB; simp [h2]
      rw [e]
      clear e
      go_enter Try.func92, Try.ntmps92
      go_wp2_with fail
      go_ret
      exact ⟨rfl, rfl⟩
  · have e : sideB n = false := by unfold sideB; simp [h1]
    rw [e]
    clear e
    go_enter Try.func92, Try.ntmps92
    go_wp2_with fail
    go_ret
    exact ⟨rfl, rfl⟩
theorem isSize_any (W H : Int) (w : World) : Calls Try.prog 86 #[.int .i64 W, .int .i64 H] w fun e w' => e = .returned (.bool (sizeB W H)) ∧ w' = w := by
  rw [sizeB_eq]
  cases hW : sideB W
  · have A : Calls Try.prog 92 #[.int .i64 W] w fun e w' => e = .returned (.bool false) ∧ w' = w := hW ▸ isSide_any W w
    go_enter Try.func86, Try.ntmps86
    go_wp2_with (go_at_call 92; refine A.mono ?_; rintro e w1 ⟨rfl, rfl⟩)
    go_ret
    exact ⟨rfl, rfl⟩
  · have A : Calls Try.prog 92 #[.int .i64 W] w fun e w' => e = .returned (.bool true) ∧ w' = w := hW ▸ isSide_any W w
    cases hH : sideB H
    · have B : Calls Try.prog 92 #[.int .i64 H] w fun e w' => e = .returned (.bool false) ∧ w' = w := hH ▸ isSide_any H w
      go_enter Try.func86, Try.ntmps86
      go_wp2_with fail
      refine A.mono ?_
      rintro e w1 ⟨rfl, rfl⟩
      go_wp2_with fail
      refine B.mono ?_
      rintro e w1 ⟨rfl, rfl⟩
      go_wp2_with fail
      go_ret
      exact ⟨rfl, rfl⟩
    · have B : Calls Try.prog 92 #[.int .i64 H] w fun e w' => e = .returned (.bool true) ∧ w' = w := hH ▸ isSide_any H w
      have h1 := sideB_true.1 hW
      have h2 := sideB_true.1 hH
      have h3 := area_le h1 h2
      clear hW hH
      by_cases h4 : W * H ≤ 65536
      · rw [decide_eq_true h4]
        generalize hA : W * H = A0 at h3 h4
        go_enter Try.func86, Try.ntmps86
        go_wp2_with fail
        refine A.mono ?_
        rintro e w1 ⟨rfl, rfl⟩
        go_wp2_with fail
        refine B.mono ?_
        rintro e w1 ⟨rfl, rfl⟩
        go_wp2_with fail
        go_ret
        exact ⟨rfl, rfl⟩
      · rw [decide_eq_false h4]
        generalize hA : W * H = A0 at h3 h4
        have h5 : decide (A0 ≤ 65536) = false := decide_eq_false h4
        go_enter Try.func86, Try.ntmps86
        go_wp2_with fail
        refine A.mono ?_
        rintro e w1 ⟨rfl, rfl⟩
        go_wp2_with fail
        refine B.mono ?_
        rintro e w1 ⟨rfl, rfl⟩
        go_wp2_with fail
        go_ret
        exact ⟨rfl, rfl⟩

/-- What is wrong with a plane. -/
def chk (W H : Int) (n : Nat) : Int := if sizeB W H = true then (if (n : Int) = W * H then 0 else 51) else 50
theorem chk_bad {W H : Int} {n : Nat} (h : sizeB W H = false) : chk W H n = 50 := by unfold chk; rw [h]; rfl
theorem chk_count {W H : Int} {n : Nat} (h : sizeB W H = true) (hn : (n : Int) ≠ W * H) : chk W H n = 51 := by unfold chk; rw [if_pos h, if_neg hn]
theorem chk_ok {W H : Int} {n : Nat} (h : sizeB W H = true) (hn : (n : Int) = W * H) : chk W H n = 0 := by unfold chk; rw [if_pos h, if_pos hn]
theorem chk_zero {W H : Int} {n : Nat} (h : chk W H n = 0) : ∃ a b : Nat, W = a ∧ H = b ∧ Size a b ∧ n = a * b := by
  unfold chk at h
  by_cases g : sizeB W H = true
  · rw [if_pos g] at h
    by_cases g2 : (n : Int) = W * H
    · obtain ⟨a, b, rfl, rfl, hs⟩ := (sizeB_true.1 g).nat
      refine ⟨a, b, rfl, rfl, hs, ?_⟩
      rw [← Int.natCast_mul] at g2
      omega
    · rw [if_neg g2] at h; exact absurd h (by decide)
  · rw [if_neg g] at h; exact absurd h (by decide)
theorem chk_size {a b : Nat} (h : Size a b) : chk a b (a * b) = 0 := chk_ok (sizeB_true.2 h.b) (by rw [Int.natCast_mul])
theorem chk_cases (W H : Int) (n : Nat) : chk W H n = 50 ∨ chk W H n = 51 ∨ chk W H n = 0 := by
  unfold chk; split
  · split <;> simp
  · simp
set_option maxHeartbeats 1000000 in
theorem check_any (W H : Int) (a : Option Addr) (n c : Nat) (hn : n ≤ 9223372036854775807) (w : World) :
    Calls Try.prog 74 #[.agg #[.int .i64 W, .int .i64 H, .slice a n c]] w fun e w' => e = .returned (.int .i64 (chk W H n)) ∧ Q w w' := by
  have q0 : ∀ c t, Q w (w.alloc (.cells c t)) := fun c t => (Q.refl w).cells c t
  have Q0 : Hid (∀ c t, Q w (w.alloc (.cells c t))) := q0
  clear q0
  cases hS : sizeB W H
  · have A : ∀ w : World, Calls Try.prog 86 #[.int .i64 W, .int .i64 H] w fun e w' => e = .returned (.bool false) ∧ w' = w := fun w => hS ▸ isSize_any W H w
    rw [chk_bad hS]
    clear hS
    go_enter Try.func74, Try.ntmps74
    go_wp2_with (go_at_call 86; refine (A _).mono ?_; rintro e w1 ⟨rfl, rfl⟩)
    go_ret
    exact ⟨rfl, Q0.out _ _⟩
  · have A : ∀ w : World, Calls Try.prog 86 #[.int .i64 W, .int .i64 H] w fun e w' => e = .returned (.bool true) ∧ w' = w := fun w => hS ▸ isSize_any W H w
    obtain ⟨h1, h2, h3, h4, h5⟩ := sizeB_true.1 hS
    have h6 := area_le ⟨h1, h2⟩ ⟨h3, h4⟩
    by_cases hc : (n : Int) = W * H
    · rw [chk_ok hS hc]
      have hw : IntKind.i64.wrap (W * H) = W * H := by rw [IntKind.wrap_i64]; omega
      have hb : ((n : Int) == W * H) = true := by rw [hc]; simp
      have hb2 : ((n : Int) != W * H) = false := by rw [hc]; simp
      clear hS hc h5 h6 h1 h2 h3 h4
      go_enter Try.func74, Try.ntmps74
      go_wp2_with (go_at_call 86; refine (A _).mono ?_; rintro e w1 ⟨rfl, rfl⟩)
      go_ret
      exact ⟨rfl, Q0.out _ _⟩
    · rw [chk_count hS hc]
      have hw : IntKind.i64.wrap (W * H) = W * H := by rw [IntKind.wrap_i64]; omega
      have hb : ((n : Int) == W * H) = false := by rw [beq_eq_false_iff_ne]; exact hc
      have hb2 : ((n : Int) != W * H) = true := by rw [bne_iff_ne]; exact hc
      clear hS hc h5 h6 h1 h2 h3 h4
      go_enter Try.func74, Try.ntmps74
      go_wp2_with (go_at_call 86; refine (A _).mono ?_; rintro e w1 ⟨rfl, rfl⟩)
      go_ret
      exact ⟨rfl, Q0.out _ _⟩

theorem tmod_mod (i n : Int) (hn : 0 < n) : (0 ≤ Int.tmod i n → Int.tmod i n = i % n) ∧ (Int.tmod i n < 0 → Int.tmod i n + n = i % n) ∧ -n < Int.tmod i n ∧ Int.tmod i n < n := by
  have e : n * Int.tdiv i n + Int.tmod i n = i := Int.mul_tdiv_add_tmod i n
  have l1 := Int.tmod_lt_of_pos i hn
  have l2 : -n < Int.tmod i n := Int.lt_tmod_of_pos i hn
  have e2 : i % n = Int.tmod i n % n := by
    conv => lhs; rw [← e]
    rw [Int.add_comm, Int.add_mul_emod_self_left]
  refine ⟨fun h => ?_, fun h => ?_, l2, l1⟩
  · rw [e2, Int.emod_eq_of_lt h l1]
  · rw [e2, ← Int.add_emod_right, Int.emod_eq_of_lt (by omega) (by omega)]
end Go.Proofs.Ytkgojnjlfkijiaa
/- What is wrong with a picture. -/
namespace Go.Proofs.Ytkgojnjlfkijiaa
open Go.RowKit
set_option linter.unusedVariables false
set_option linter.unusedSimpArgs false

def numB (n : Int) : Bool := decide (1 ≤ n) && decide (n ≤ 4)
def spcB (k n : Int) : Bool := k == 0 || (decide (0 < k) && decide (k ≤ 4) && (n == 3 || n == 4))
theorem isnumber_any (n : Int) (w : World) : Calls Try.prog 73 #[.int .i64 n] w fun e w' => e = .returned (.bool (numB n)) ∧ w' = w := by
  unfold numB
  by_cases h1 : 1 ≤ n
  · by_cases h2 : n ≤ 4
    · rw [decide_eq_true h1, decide_eq_true h2]
      go_enter Try.func73, Try.ntmps73
      go_wp2_with fail
      go_ret
      exact ⟨rfl, rfl⟩
    · rw [decide_eq_true h1, decide_eq_false h2]
      have g2 := decide_eq_false h2
      go_enter Try.func73, Try.ntmps73
      go_wp2_with fail
      go_ret
      exact ⟨rfl, rfl⟩
  · rw [decide_eq_false h1]
    have g1 := decide_eq_false h1
    go_enter Try.func73, Try.ntmps73
    go_wp2_with fail
    go_ret
    exact ⟨rfl, rfl⟩
set_option maxHeartbeats 1000000 in
theorem isspace8_any (k n : Int) (w : World) : Calls Try.prog 76 #[.int .i64 k, .int .i64 n] w fun e w' => e = .returned (.bool (spcB k n)) ∧ w' = w := by
  by_cases h0 : k = 0
  · subst h0
    go_enter Try.func76, Try.ntmps76
    go_wp2_with fail
    go_ret
    exact ⟨rfl, rfl⟩
  · have b0 : (k == 0) = false := by rw [beq_eq_false_iff_ne]; exact h0
    by_cases h1 : 0 < k
    · by_cases h2 : k ≤ 4
      · have e : spcB k n = (n == 3 || n == 4) := by unfold spcB; rw [b0, decide_eq_true h1, decide_eq_true h2]; simp
        rw [e]
        by_cases h3 : n = 3
        · subst h3
          go_enter Try.func76, Try.ntmps76
          go_wp2_with fail
          go_ret
          exact ⟨rfl, rfl⟩
        · have b3 : (n == 3) = false := by rw [beq_eq_false_iff_ne]; exact h3
          rw [b3]
          go_enter Try.func76, Try.ntmps76
          go_wp2_with fail
          go_ret
          exact ⟨by simp, rfl⟩
      · have e : spcB k n = false := by unfold spcB; rw [b0, decide_eq_false h2]; simp
        rw [e]
        have g2 := decide_eq_false h2
        go_enter Try.func76, Try.ntmps76
        go_wp2_with fail
        go_ret
        exact ⟨rfl, rfl⟩
    · have e : spcB k n = false := by unfold spcB; rw [b0, decide_eq_false h1]; simp
      rw [e]
      have g1 := decide_eq_false h1
      go_enter Try.func76, Try.ntmps76
      go_wp2_with fail
      go_ret
      exact ⟨rfl, rfl⟩
set_option maxHeartbeats 1000000 in
theorem onesize_any (a b c d : Int) (p q : Option Addr) (n m k l : Nat) (w : World) : Calls Try.prog 75 #[.agg #[.int .i64 a, .int .i64 b, .slice p n m], .agg #[.int .i64 c, .int .i64 d, .slice q k l]] w fun e w' => e = .returned (.bool (a == c && b == d)) ∧ Q w w' := by
  have q0 : Hid (∀ c t c' t', Q w ((w.alloc (.cells c t)).alloc (.cells c' t'))) := fun c t c' t' => ((Q.refl w).cells c t).cells c' t'
  by_cases h1 : a = c
  · subst h1
    go_enter Try.func75, Try.ntmps75
    go_wp2_with fail
    go_ret
    exact ⟨by simp, q0.out _ _ _ _⟩
  · have b1 : (a == c) = false := by rw [beq_eq_false_iff_ne]; exact h1
    rw [b1]
    go_enter Try.func75, Try.ntmps75
    go_wp2_with fail
    go_ret
    exact ⟨rfl, q0.out _ _ _ _⟩
/-- A plane that came in: its sides, where its list lies, its samples. -/
structure PD where
  W : Int
  H : Int
  ad : Option Addr
  cap : Nat
  S : List Nat
def PD.sv (x : PD) : Value := .slice x.ad x.S.length x.cap
def DIs (w : World) (g o : Nat) (D : List PD) : Prop := ∀ i x, D[i]? = some x → w.cell? ⟨g, o + i * 3, none⟩ = some (.int .i64 x.W) ∧ w.cell? ⟨g, o + i * 3 + 1, none⟩ = some (.int .i64 x.H) ∧ w.cell? ⟨g, o + i * 3 + 2, none⟩ = some (.slice x.ad x.S.length x.cap) ∧ USl w x.sv x.S
theorem DIs.next {w w' : World} {g o : Nat} {D : List PD} (h : DIs w g o D) (q : Q w w') : DIs w' g o D := fun i x hx => by
  obtain ⟨h1, h2, h3, h4⟩ := h i x hx
  exact ⟨q.cell h1, q.cell h2, q.cell h3, h4.next q⟩
def DSl (w : World) (v : Value) (D : List PD) : Prop := (∃ ad c, v = .slice ad 0 c ∧ D = []) ∨ ∃ g o c, v = .slice (some ⟨g, o, none⟩) D.length c ∧ D.length ≤ c ∧ DIs w g o D
theorem DSl.next {w w' : World} {v : Value} {D : List PD} (h : DSl w v D) (q : Q w w') : DSl w' v D := by
  rcases h with h | ⟨g, o, c, h1, h2, h3⟩
  · exact Or.inl h
  · exact Or.inr ⟨g, o, c, h1, h2, h3.next q⟩
theorem DSl.form {w : World} {v : Value} {D : List PD} (h : DSl w v D) : ∃ ad c, v = .slice ad D.length c := by
  rcases h with ⟨ad, c, rfl, rfl⟩ | ⟨g, o, c, rfl, _⟩
  · exact ⟨ad, c, rfl⟩
  · exact ⟨_, c, rfl⟩
theorem DSl.some {w : World} {v : Value} {D : List PD} (h : DSl w v D) (h1 : 1 ≤ D.length) : ∃ g o c, v = .slice (some ⟨g, o, none⟩) D.length c ∧ D.length ≤ c ∧ DIs w g o D := by
  rcases h with ⟨ad, c, rfl, rfl⟩ | h
  · simp at h1
  · exact h
def PD.chk (x : PD) : Int := Proofs.Ytkgojnjlfkijiaa.chk x.W x.H x.S.length
def firstE : List PD → Int
  | [] => 0
  | x :: t => if x.chk = 0 then firstE t else x.chk
def PD.like (x y : PD) : Bool := x.W == y.W && x.H == y.H
def pd0 : PD := ⟨0, 0, none, 0, []⟩
/-- What is wrong with a picture. -/
def chkP (sp : Int) (D : List PD) : Int := if numB D.length = true then (if firstE D = 0 then (if (D.all fun x => x.like (D.getD 0 pd0)) = true then (if spcB sp D.length = true then 0 else 81) else 80) else firstE D) else 80
theorem firstE_at {D : List PD} {i : Nat} {x : PD} (hx : D[i]? = some x) (h : ∀ j y, j < i → D[j]? = some y → y.chk = 0) (hc : x.chk ≠ 0) : firstE D = x.chk := by
  induction D generalizing i with
  | nil => simp at hx
  | cons y t ih =>
    cases i with
    | zero =>
      have : y = x := by simpa using hx
      subst this
      unfold firstE
      rw [if_neg hc]
    | succ i =>
      unfold firstE
      rw [if_pos (h 0 y (by omega) rfl)]
      exact ih (by simpa using hx) (fun j z hj hz => h (j + 1) z (by omega) (by simpa using hz))
theorem firstE_ok {D : List PD} (h : ∀ (j : Nat) (y : PD), D[j]? = some y → y.chk = 0) : firstE D = 0 := by
  induction D with
  | nil => rfl
  | cons y t ih =>
    unfold firstE
    rw [if_pos (h 0 y rfl)]
    exact ih (fun j z hz => h (j + 1) z (by simpa using hz))
theorem firstE_zero {D : List PD} (h : firstE D = 0) : ∀ x ∈ D, x.chk = 0 := by
  induction D with
  | nil => exact fun x hx => by cases hx
  | cons y t ih =>
    unfold firstE at h
    by_cases hy : y.chk = 0
    · rw [if_pos hy] at h
      intro x hx
      rcases List.mem_cons.1 hx with rfl | hx
      · exact hy
      · exact ih h x hx
    · rw [if_neg hy] at h; exact absurd h hy
end Go.Proofs.Ytkgojnjlfkijiaa
/- Check: the walk. -/
namespace Go.Proofs.Ytkgojnjlfkijiaa
open Go.RowKit
set_option linter.unusedVariables false
set_option linter.unusedSimpArgs false

set_option maxHeartbeats 8000000 in
set_option maxRecDepth 100000 in
theorem pcheck_any (w : World) (sp : Int) (v : Value) (D : List PD) (h : DSl w v D) (hl : ∀ x ∈ D, x.S.length ≤ 9223372036854775807) (hD : D.length ≤ 9223372036854775807) :
    Calls Try.prog 57 #[.agg #[.int .i64 sp, v]] w fun e w' => e = .returned (.int .i64 (chkP sp D)) ∧ Q w w' := by
  obtain ⟨ad, cap, rfl⟩ := h.form
  have HD : Hid (DSl w (.slice ad D.length cap) D) := h
  obtain ⟨n, hn⟩ : ∃ n, D.length = n := ⟨_, rfl⟩
  have HN : Hid (D.length = n) := hn
  have HL : Hid (∀ x ∈ D, x.S.length ≤ 9223372036854775807) := hl
  have q0 : Hid (∀ c t, Q w (w.alloc (.cells c t))) := fun c t => (Q.refl w).cells c t
  rw [hn] at hD ⊢
  clear h hn hl
  cases hnb : numB n
  · have A : ∀ w : World, Calls Try.prog 73 #[.int .i64 (n : Int)] w fun e w' => e = .returned (.bool false) ∧ w' = w := fun w => hnb ▸ isnumber_any n w
    have e : chkP sp D = 80 := by unfold chkP; rw [HN.out, hnb]; rfl
    rw [e]
    clear e hnb
    go_enter Try.func57, Try.ntmps57
    go_wp2_with fail
    refine (A _).mono ?_
    rintro e w1 ⟨rfl, rfl⟩
    go_wp2_with fail
    go_ret
    exact ⟨rfl, q0.out _ _⟩
  · have A : ∀ w : World, Calls Try.prog 73 #[.int .i64 (n : Int)] w fun e w' => e = .returned (.bool true) ∧ w' = w := fun w => hnb ▸ isnumber_any n w
    have hn14 : 1 ≤ n ∧ n ≤ 4 := by unfold numB at hnb; simp at hnb; omega
    have HNB : Hid (numB n = true) := hnb
    obtain ⟨g, o, c, e1, e2, e3⟩ := HD.out.some (by rw [HN.out]; omega)
    injection e1 with e1 e4 e5
    subst e1 e5
    have HI : Hid (DIs w g o D) := e3
    rw [HN.out] at e2
    clear e3 e4 hnb HD
    go_enter Try.func57, Try.ntmps57
    go_wp2_with fail
    refine (A _).mono ?_
    rintro e w1 ⟨rfl, rfl⟩
    go_wp2_with fail
    have HQ1 : Hid (Q w (w.alloc (Obj.cells #[Value.int IntKind.i64 sp, Value.slice (some { block := g, off := o }) n cap] 42))) := q0.out _ _
    have b0 : (w.alloc (Obj.cells #[Value.int IntKind.i64 sp, Value.slice (some { block := g, off := o }) n cap] 42)).cell? ⟨w.heap.size, 0, none⟩ = some (.int .i64 sp) := by simp [go_sem]
    have b1 : (w.alloc (Obj.cells #[Value.int IntKind.i64 sp, Value.slice (some { block := g, off := o }) n cap] 42)).cell? ⟨w.heap.size, 1, none⟩ = some (.slice (some ⟨g, o, none⟩) n cap) := by simp [go_sem]
    have HI1 : Hid (DIs (w.alloc (Obj.cells #[Value.int IntKind.i64 sp, Value.slice (some { block := g, off := o }) n cap] 42)) g o D) := HI.out.next HQ1.out
    generalize (w.alloc (Obj.cells #[Value.int IntKind.i64 sp, Value.slice (some { block := g, off := o }) n cap] 42)) = w1 at *
    go_loopg [16] n (fun m s16 wx => ∃ i : Nat, s16 = .int .i64 i ∧ i + m = n ∧ Hid (∀ (j : Nat) (y : PD), j < i → D[j]? = some y → y.chk = 0) ∧ Hid (Q w1 wx))
    case atStart => exact ⟨0, rfl, by omega, fun j y hj => absurd hj (Nat.not_lt_zero _), Q.refl _⟩
    case round =>
      obtain ⟨i, rfl, him, HC, HQ⟩ := hrel
      by_cases hi : i < n
      · have hi0 : (0 : Int) ≤ (i : Int) := by omega
        have hi1 : (i : Int) < (n : Int) := by omega
        obtain ⟨x, hx⟩ : ∃ x, D[i]? = some x := ⟨_, List.getElem?_eq_getElem (by rw [HN.out]; exact hi)⟩
        obtain ⟨c0, c1, c2, _⟩ := (HI1.out.next HQ.out) i x hx
        have hxl := HL.out x (List.mem_of_getElem? hx)
        have HX : Hid (D[i]? = some x) := hx
        clear hx
        go_wp2_with fail
        refine (check_any x.W x.H x.ad x.S.length x.cap hxl _).mono ?_
        rintro e w3 ⟨rfl, q3⟩
        have HQ3 : Hid (Q w1 w3) := (HQ.out.cells _ _).trans q3
        obtain ⟨ck, hck⟩ : ∃ ck, chk x.W x.H x.S.length = ck := ⟨_, rfl⟩
        have HCK : Hid (x.chk = ck) := hck
        rw [hck]
        clear hck q3 c0 c1 c2
        by_cases h0 : ck = 0
        · subst h0
          have HC' : Hid (∀ (j : Nat) (y : PD), j < i + 1 → D[j]? = some y → y.chk = 0) := fun j y hj hy => by
            by_cases e : j = i
            · subst e
              have := HX.out.symm.trans hy
              injection this with this
              rw [← this]; exact HCK.out
            · exact HC.out j y (by omega) hy
          go_wp2_with fail
          go_roundg (n - (i + 1))
          case measure => go_light; omega
          case rel => go_light; exact ⟨i + 1, by go_num, by omega, HC', HQ3⟩
        · have h1 : (ck != 0) = true := by rw [bne_iff_ne]; exact h0
          have h2 : (ck == 0) = false := by rw [beq_eq_false_iff_ne]; exact h0
          have HE : Hid (chkP sp D = ck) := by
            show chkP sp D = ck
            have := firstE_at HX.out HC.out (by rw [HCK.out]; exact h0)
            unfold chkP
            rw [HN.out, if_pos HNB.out, this, HCK.out, if_neg h0]
          clear h0
          go_wp2_with fail
          go_ret
          exact ⟨by rw [HE.out]; rfl, HQ1.out.trans HQ3.out⟩
      · have HF : Hid (firstE D = 0) := firstE_ok (fun j y hy => HC.out j y (by have := (List.getElem?_eq_some_iff.1 hy).1; rw [HN.out] at this; omega) hy)
        have p1 := HQ.out.cell b1
        go_wp2_with fail
        obtain ⟨d, hd⟩ : ∃ d, D[0]? = some d := ⟨_, List.getElem?_eq_getElem (by rw [HN.out]; omega)⟩
        have HD0 : Hid (D.getD 0 pd0 = d) := by show D.getD 0 pd0 = d; rw [List.getD_eq_getElem?_getD, hd]; rfl
        have HI0 : Hid (DIs w1 g o D) := HI1
        have hn1 : (0 : Int) < (n : Int) := by omega
        have hie : n ≤ i := by omega
        have QR : Hid (Q w1 wr) := HQ
        generalize wr = wo at *
        go_loopg [29] n (fun m s29 wx => ∃ i : Nat, s29 = .int .i64 i ∧ i + m = n ∧ Hid (∀ (j : Nat) (y : PD), j < i → D[j]? = some y → y.like d = true) ∧ Hid (Q w1 wx))
        case atStart => exact ⟨0, rfl, by omega, fun j y hj => absurd hj (Nat.not_lt_zero _), QR⟩
        case round =>
          obtain ⟨i, rfl, him, HC, HQ⟩ := hrel
          by_cases hi : i < n
          · have hi0 : (0 : Int) ≤ (i : Int) := by omega
            have hi1 : (i : Int) < (n : Int) := by omega
            obtain ⟨x, hx⟩ : ∃ x, D[i]? = some x := ⟨_, List.getElem?_eq_getElem (by rw [HN.out]; exact hi)⟩
            obtain ⟨c0, c1, c2, _⟩ := (HI1.out.next HQ.out) i x hx
            obtain ⟨d0, d1, d2, _⟩ := (HI1.out.next HQ.out) 0 d hd
            rw [Nat.zero_mul, Nat.add_zero] at d0 d1 d2
            have p1 := HQ.out.cell b1
            have HX : Hid (D[i]? = some x) := hx
            clear hx
            go_wp2_with fail
            have q3 : Q wr (wr.alloc (Obj.cells #[Value.int IntKind.i64 x.W, Value.int IntKind.i64 x.H, Value.slice x.ad x.S.length x.cap] 38)) := (Q.refl wr).cells _ _
            have k0 : (wr.alloc (Obj.cells #[Value.int IntKind.i64 x.W, Value.int IntKind.i64 x.H, Value.slice x.ad x.S.length x.cap] 38)).cell? ⟨wr.heap.size, 0, none⟩ = some (.int .i64 x.W) := by simp [go_sem]
            have k1 : (wr.alloc (Obj.cells #[Value.int IntKind.i64 x.W, Value.int IntKind.i64 x.H, Value.slice x.ad x.S.length x.cap] 38)).cell? ⟨wr.heap.size, 1, none⟩ = some (.int .i64 x.H) := by simp [go_sem]
            have k2 : (wr.alloc (Obj.cells #[Value.int IntKind.i64 x.W, Value.int IntKind.i64 x.H, Value.slice x.ad x.S.length x.cap] 38)).cell? ⟨wr.heap.size, 2, none⟩ = some (.slice x.ad x.S.length x.cap) := by simp [go_sem]
            generalize (wr.alloc (Obj.cells #[Value.int IntKind.i64 x.W, Value.int IntKind.i64 x.H, Value.slice x.ad x.S.length x.cap] 38)) = w3 at *
            have n0 := qw_some w3
            have f0 := qw_cell k0
            have f1 := qw_cell k1
            have f2 := qw_cell k2
            have f3 := qw_cell (q3.cell d0)
            have f4 := qw_cell (q3.cell d1)
            have f5 := qw_cell (q3.cell d2)
            have f6 := qw_cell (q3.cell p1)
            have HQ3 : Hid (Q w1 w3) := HQ.out.trans q3
            obtain ⟨bb, hbb⟩ : ∃ bb, x.like d = bb := ⟨_, rfl⟩
            have HO : Hid (∀ w : World, Calls Try.prog 75 #[.agg #[.int .i64 x.W, .int .i64 x.H, .slice x.ad x.S.length x.cap], .agg #[.int .i64 d.W, .int .i64 d.H, .slice d.ad d.S.length d.cap]] w fun e w' => e = .returned (.bool bb) ∧ Q w w') := fun w => by rw [← hbb]; exact onesize_any x.W x.H d.W d.H x.ad d.ad x.S.length x.cap d.S.length d.cap w
            have HBB : Hid (x.like d = bb) := hbb
            clear hbb k0 k1 k2 d0 d1 d2 p1 c0 c1 c2
            refine wp_region_quiet_Q (by kernel_rfl) (by kernel_rfl) ?_
            repeat (first | go_big_quiet_step (first | (go_at_call 75; exact calls_qw (HO.out _))) | quiet_step (first | (go_at_call 75; exact calls_qw (HO.out _))))
            refine wpQuiet_nil ?_
            intro w4 hw'
            have HQ4 : Hid (Q w1 w4) := HQ3.out.trans (qw_out hw')
            clear hw' f0 f1 f2 f3 f4 f5 f6 n0
            cases bb
            · have HE : Hid (chkP sp D = 80) := by
                show chkP sp D = 80
                unfold chkP
                rw [HN.out, if_pos HNB.out, if_pos HF.out, HD0.out, if_neg]
                intro hall
                have := List.all_eq_true.1 hall x (List.mem_of_getElem? HX.out)
                rw [HBB.out] at this; cases this
              go_wp2_with fail
              go_ret
              exact ⟨by rw [HE.out]; rfl, HQ1.out.trans HQ4.out⟩
            · have HC' : Hid (∀ (j : Nat) (y : PD), j < i + 1 → D[j]? = some y → y.like d = true) := fun j y hj hy => by
                by_cases e : j = i
                · subst e
                  have := HX.out.symm.trans hy
                  injection this with this
                  rw [← this]; exact HBB.out
                · exact HC.out j y (by omega) hy
              go_wp2_with fail
              go_roundg (n - (i + 1))
              case measure => go_light; omega
              case rel => go_light; exact ⟨i + 1, by go_num, by omega, HC', HQ4⟩
          · have HALL : Hid ((D.all fun x => x.like (D.getD 0 pd0)) = true) := by
              show _ = _
              rw [HD0.out, List.all_eq_true]
              intro y hy
              obtain ⟨j, hj⟩ := List.getElem?_of_mem hy
              exact HC.out j y (by have := (List.getElem?_eq_some_iff.1 hj).1; rw [HN.out] at this; omega) hj
            have p0 := HQ.out.cell b0
            have p1 := HQ.out.cell b1
            cases hsp : spcB sp n
            · have HS : Hid (∀ w : World, Calls Try.prog 76 #[.int .i64 sp, .int .i64 (n : Int)] w fun e w' => e = .returned (.bool false) ∧ w' = w) := fun w => hsp ▸ isspace8_any sp n w
              have HE : Hid (chkP sp D = 81) := by
                show chkP sp D = 81
                unfold chkP
                rw [HN.out, if_pos HNB.out, if_pos HF.out, if_pos HALL.out, hsp]; rfl
              clear hsp
              go_wp2_with fail
              refine (HS.out _).mono ?_
              rintro e w5 ⟨rfl, rfl⟩
              go_wp2_with fail
              go_ret
              exact ⟨by rw [HE.out]; rfl, HQ1.out.trans HQ.out⟩
            · have HS : Hid (∀ w : World, Calls Try.prog 76 #[.int .i64 sp, .int .i64 (n : Int)] w fun e w' => e = .returned (.bool true) ∧ w' = w) := fun w => hsp ▸ isspace8_any sp n w
              have HE : Hid (chkP sp D = 0) := by
                show chkP sp D = 0
                unfold chkP
                rw [HN.out, if_pos HNB.out, if_pos HF.out, if_pos HALL.out, hsp]; rfl
              clear hsp
              go_wp2_with fail
              refine (HS.out _).mono ?_
              rintro e w5 ⟨rfl, rfl⟩
              go_wp2_with fail
              go_ret
              exact ⟨by rw [HE.out]; rfl, HQ1.out.trans HQ.out⟩
/-- A picture with which nothing is wrong. -/
theorem chkP_zero {w : World} {sp : Int} {v : Value} {D : List PD} (h : DSl w v D) (hc : chkP sp D = 0) (hlt : ∀ x ∈ D, ∀ i, x.S.getD i 0 < 4294967296) : ∃ g o cap a b L, v = .slice (some ⟨g, o, none⟩) L.length cap ∧ L.length ≤ cap ∧ Pc w g o a b L ∧ spcB sp L.length = true ∧ L.map PL.S = D.map PD.S := by
  unfold chkP at hc
  by_cases h1 : numB D.length = true
  · rw [if_pos h1] at hc
    by_cases h2 : firstE D = 0
    · rw [if_pos h2] at hc
      by_cases h3 : (D.all fun x => x.like (D.getD 0 pd0)) = true
      · rw [if_pos h3] at hc
        by_cases h4 : spcB sp D.length = true
        · have hn14 : 1 ≤ D.length ∧ D.length ≤ 4 := by unfold numB at h1; simp at h1; omega
          obtain ⟨g, o, c, e1, e2, e3⟩ := h.some hn14.1
          obtain ⟨d, hd⟩ : ∃ d, D[0]? = some d := ⟨_, List.getElem?_eq_getElem (by omega)⟩
          have hd0 : D.getD 0 pd0 = d := by rw [List.getD_eq_getElem?_getD, hd]; rfl
          rw [hd0] at h3
          obtain ⟨a, b, ha, hb, hs, hl⟩ := chk_zero (firstE_zero h2 d (List.mem_of_getElem? hd))
          have key : ∀ x ∈ D, x.W = a ∧ x.H = b ∧ x.S.length = a * b := fun x hx => by
            have hl := List.all_eq_true.1 h3 x hx
            unfold PD.like at hl
            simp at hl
            obtain ⟨a', b', ha', hb', _, hl'⟩ := chk_zero (firstE_zero h2 x hx)
            have e1 : a' = a := by have := hl.1; omega
            have e2 : b' = b := by have := hl.2; omega
            subst e1 e2
            exact ⟨ha', hb', hl'⟩
          have cell : ∀ x ∈ D, ∃ gx ox, x.ad = some ⟨gx, ox, none⟩ ∧ x.S.length ≤ x.cap ∧ UIs w gx ox x.S := fun x hx => by
            obtain ⟨i, hi⟩ := List.getElem?_of_mem hx
            obtain ⟨_, _, _, hu⟩ := e3 i x hi
            obtain ⟨gx, ox, cx, f1, f2, f3⟩ := hu.some (by rw [(key x hx).2.2]; exact hs.pos)
            unfold PD.sv at f1
            injection f1 with f1 f4 f5
            exact ⟨gx, ox, f1, by rw [f5]; exact f2, f3⟩
          have mk : ∃ L : List PL, L.length = D.length ∧ L.map PL.S = D.map PD.S ∧ ∀ (i : Nat) (x : PL), L[i]? = some x → ∃ y : PD, D[i]? = some y ∧ y.ad = some ⟨x.g, x.o, none⟩ ∧ y.S = x.S ∧ y.cap = x.cap := by
            refine ⟨D.map fun y => ⟨(y.ad.getD ⟨0, 0, none⟩).block, (y.ad.getD ⟨0, 0, none⟩).off, y.cap, y.S⟩, by simp, by rw [List.map_map]; rfl, fun i x hx => ?_⟩
            rw [List.getElem?_map] at hx
            cases hy : D[i]? with
            | none => rw [hy] at hx; cases hx
            | some y =>
              rw [hy] at hx
              have hx := Option.some.inj hx
              obtain ⟨gx, ox, f1, _⟩ := cell y (List.mem_of_getElem? hy)
              refine ⟨y, rfl, ?_, by rw [← hx], by rw [← hx]⟩
              rw [← hx]
              simp only [f1, Option.getD_some]
          obtain ⟨L, hL, hLS, hLx⟩ := mk
          refine ⟨g, o, c, a, b, L, by rw [hL]; exact e1, by rw [hL]; exact e2, ⟨hs, by omega, by omega, fun i x hx => ?_, fun x hx => ?_⟩, by rw [hL]; exact h4, hLS⟩
          · obtain ⟨y, hy, g1, g2, g3⟩ := hLx i x hx
            obtain ⟨k0, k1, k2, _⟩ := e3 i y hy
            obtain ⟨kW, kH, _⟩ := key y (List.mem_of_getElem? hy)
            refine ⟨by rw [k0, kW], by rw [k1, kH], ?_⟩
            rw [k2, g1, g2, g3]; rfl
          · obtain ⟨i, hi⟩ := List.getElem?_of_mem hx
            obtain ⟨y, hy, g1, g2, g3⟩ := hLx i x hi
            have hym := List.mem_of_getElem? hy
            obtain ⟨_, _, kl⟩ := key y hym
            obtain ⟨gx, ox, f1, f2, f3⟩ := cell y hym
            rw [g1] at f1
            injection f1 with f1
            injection f1 with f1 f4
            rw [← f1, ← f4] at f3
            refine ⟨by rw [← g2]; exact kl, by rw [← g2, ← g3]; exact f2, by rw [← g2]; exact f3, by rw [← g2]; exact hlt y hym⟩
        · rw [if_neg h4] at hc; exact absurd hc (by decide)
      · rw [if_neg h3] at hc; exact absurd hc (by decide)
    · rw [if_neg h2] at hc; exact absurd hc h2
  · rw [if_neg h1] at hc; exact absurd hc (by decide)
end Go.Proofs.Ytkgojnjlfkijiaa
/- YCC: what ToYCC and FromYCC return. -/
namespace Go.Proofs.Ytkgojnjlfkijiaa
open Go.RowKit
set_option linter.unusedVariables false

def yS (r b : Nat) : Nat := opT .add (wideW r) (wideW b)
def yD (g : Nat) : Nat := opT .mul 4611686018427387904 (wideW g)
def ycc0 (r g b : Nat) : Nat := narW (opT .quo (opT .add (yS r b) (yD g)) 4616189618054758400)
def ycc1 (r g b : Nat) : Nat := narW (opT .quo (opT .sub (yD g) (yS r b)) 4616189618054758400)
def ycc2 (r g b : Nat) : Nat := narW (opT .quo (opT .sub (wideW r) (wideW b)) 4611686018427387904)
def rT (y cg : Nat) : Nat := opT .sub (wideW y) (wideW cg)
def rgb0 (y cg co : Nat) : Nat := narW (opT .add (rT y cg) (wideW co))
def rgb1 (y cg co : Nat) : Nat := narW (opT .add (wideW y) (wideW cg))
def rgb2 (y cg co : Nat) : Nat := narW (opT .sub (rT y cg) (wideW co))
theorem ret_a3 {a b c x y z : Nat} (h : a = x) (g : b = y) (k : c = z) : Value.agg #[.int .u32 (a : Nat), .int .u32 (b : Nat), .int .u32 (c : Nat)] = a3 x y z := by rw [h, g, k]; rfl
theorem can_2 : canW 4611686018427387904 = 4611686018427387904 := by decide +kernel
theorem can_4 : canW 4616189618054758400 = 4616189618054758400 := by decide +kernel
end Go.Proofs.Ytkgojnjlfkijiaa
/- Plain facts: rounding to binary64 and then to binary32 does not show where no half-way number lies near. -/
namespace Go.Proofs.Ytkgojnjlfkijiaa
open Go.RowKit

theorem up_not {M D : Nat} (h : 2 * (M % 2 ^ D) < 2 ^ D) : rne M D = M / 2 ^ D := by
  unfold rne
  have : ¬ goesUp M D := by unfold goesUp; omega
  rw [if_neg this, Nat.add_zero]
theorem up_yes {M D : Nat} (h : 2 ^ D < 2 * (M % 2 ^ D)) : rne M D = M / 2 ^ D + 1 := by
  unfold rne
  rw [if_pos (show goesUp M D from Or.inl h)]
/-- Rounded twice. -/
theorem twice_gen {M K D : Nat} (hKD : K + 1 ≤ D) (hmid : rne M K * 2 ^ K % 2 ^ D = 2 ^ (D - 1) → rne M K * 2 ^ K = M) : rne (rne M K * 2 ^ K) D = rne M D := by
  obtain ⟨n1, n2⟩ := rne_near M K
  obtain ⟨c, hc⟩ : ∃ c, c = rne M K := ⟨_, rfl⟩
  rw [← hc] at n1 n2 hmid ⊢
  by_cases hCM : c * 2 ^ K = M
  · rw [hCM]
  have hno : c * 2 ^ K % 2 ^ D ≠ 2 ^ (D - 1) := fun h => hCM (hmid h)
  obtain ⟨i, hi⟩ : ∃ i, D = K + 1 + i := ⟨D - K - 1, by omega⟩
  have eU : 2 ^ D = 2 * 2 ^ i * 2 ^ K := by
    rw [hi, show K + 1 + i = 1 + i + K by omega, Nat.pow_add, Nat.pow_add, Nat.pow_one]
  have eH : 2 ^ (D - 1) = 2 ^ i * 2 ^ K := by rw [hi, show K + 1 + i - 1 = i + K by omega, Nat.pow_add]
  have hE := Nat.two_pow_pos K
  have hh := Nat.two_pow_pos i
  have et : c * 2 ^ K % 2 ^ D = c % (2 * 2 ^ i) * 2 ^ K := by rw [eU, Nat.mul_mod_mul_right]
  have hτ : c % (2 * 2 ^ i) < 2 * 2 ^ i := Nat.mod_lt _ (by omega)
  rw [et, eH] at hno
  have hτn : c % (2 * 2 ^ i) ≠ 2 ^ i := fun h => hno (by rw [h])
  have dC := Nat.div_add_mod (c * 2 ^ K) (2 ^ D)
  have dM := Nat.div_add_mod M (2 ^ D)
  have bM := Nat.mod_lt M (show 0 < 2 ^ D by rw [eU]; exact Nat.mul_pos (by omega) hE)
  -- how the rest lies
  have ht : 2 * (c * 2 ^ K % 2 ^ D) + 2 * 2 ^ K ≤ 2 ^ D ∨ (2 ^ D + 2 * 2 ^ K ≤ 2 * (c * 2 ^ K % 2 ^ D) ∧ c * 2 ^ K % 2 ^ D + 2 ^ K ≤ 2 ^ D) := by
    rw [et, eU]
    rcases Nat.lt_or_ge (c % (2 * 2 ^ i)) (2 ^ i) with g | g
    · left
      have := Nat.mul_le_mul_right (2 ^ K) (show c % (2 * 2 ^ i) + 1 ≤ 2 ^ i from g)
      rw [Nat.add_mul, Nat.one_mul] at this
      rw [Nat.mul_assoc 2]
      omega
    · right
      have h1 := Nat.mul_le_mul_right (2 ^ K) (show 2 ^ i + 1 ≤ c % (2 * 2 ^ i) by omega)
      have h2 := Nat.mul_le_mul_right (2 ^ K) (show c % (2 * 2 ^ i) + 1 ≤ 2 * 2 ^ i from hτ)
      rw [Nat.add_mul, Nat.one_mul] at h1 h2
      rw [Nat.mul_assoc 2] at h2 ⊢
      omega
  obtain ⟨U, hU⟩ : ∃ U, U = 2 ^ D := ⟨_, rfl⟩
  obtain ⟨E, hEe⟩ : ∃ E, E = 2 ^ K := ⟨_, rfl⟩
  obtain ⟨C, hC⟩ : ∃ C, C = c * 2 ^ K := ⟨_, rfl⟩
  have r1 := up_not (M := C) (D := D)
  have r2 := up_yes (M := C) (D := D)
  have r3 := up_not (M := M) (D := D)
  have r4 := up_yes (M := M) (D := D)
  rw [← hC] at n1 n2 dC ht ⊢
  rw [← hEe] at n1 n2 ht hE
  rw [← hU] at dC dM bM ht r1 r2 r3 r4
  obtain ⟨q, hq⟩ : ∃ q, q = C / U := ⟨_, rfl⟩
  obtain ⟨t, htt⟩ : ∃ t, t = C % U := ⟨_, rfl⟩
  obtain ⟨a, haa⟩ : ∃ a, a = M / U := ⟨_, rfl⟩
  obtain ⟨b, hbb⟩ : ∃ b, b = M % U := ⟨_, rfl⟩
  rw [← hq, ← htt] at dC
  rw [← haa, ← hbb] at dM
  rw [← htt] at ht
  rw [← hq, ← htt] at r1 r2
  rw [← haa, ← hbb] at r3 r4
  rw [← hbb] at bM
  rcases Nat.lt_trichotomy a q with g | g | g
  · -- one below
    obtain ⟨z, hz⟩ : ∃ z, q = a + 1 + z := ⟨q - a - 1, by omega⟩
    have e1 : U * q = U * a + U + U * z := by rw [hz, Nat.mul_add, Nat.mul_add, Nat.mul_one]
    have hz0 : z = 0 := by
      rcases Nat.eq_zero_or_pos z with k | k
      · exact k
      · have : U * 1 ≤ U * z := Nat.mul_le_mul_left _ k
        omega
    rw [hz0, Nat.mul_zero] at e1
    rcases ht with ht | ⟨ht, ht2⟩
    · rw [r1 (by omega), r4 (by omega)]; omega
    · omega
  · rw [g] at dM
    rcases ht with ht | ⟨ht, ht2⟩
    · rw [r1 (by omega), r3 (by omega), g]
    · rw [r2 (by omega), r4 (by omega), g]
  · obtain ⟨z, hz⟩ : ∃ z, a = q + 1 + z := ⟨a - q - 1, by omega⟩
    have e1 : U * a = U * q + U + U * z := by rw [hz, Nat.mul_add, Nat.mul_add, Nat.mul_one]
    rcases ht with ht | ⟨ht, ht2⟩ <;> omega

/-- To binary64, then to binary32. -/
theorem narrow_twice {Z : Nat} (hZ : Z.log2 ≤ 2000) (hmid : 0 < lostK Z → rne Z (lostK Z) * 2 ^ lostK Z % 2 ^ max (Z.log2 - 23) 925 = 2 ^ (max (Z.log2 - 23) 925 - 1) → rne Z (lostK Z) * 2 ^ lostK Z = Z) :
    rungOf Ieee.single (val64 (rungOf Ieee.double Z (-1074))) (-1074) = rungOf Ieee.single Z (-1074) := by
  rcases Nat.eq_zero_or_pos (lostK Z) with g | g
  · rw [vN_div hZ (by rw [g]; exact Nat.one_dvd _)]
  · rw [vN_eq hZ]
    have hL : Z.log2 = 52 + lostK Z := by unfold lostK at *; omega
    have h0 : Z ≠ 0 := by intro h0; rw [h0] at g; exact absurd g (by decide)
    obtain ⟨D, hD⟩ : ∃ D, D = max (Z.log2 - 23) 925 := ⟨_, rfl⟩
    have htw := twice_gen (M := Z) (K := lostK Z) (D := D) (by omega) (by rw [hD]; exact hmid g)
    obtain ⟨b1, b2⟩ := kept_bd (M := Z)
    have b2 := b2 g
    obtain ⟨c, hc⟩ : ∃ c, c = rne Z (lostK Z) := ⟨_, rfl⟩
    rw [← hc] at htw b1 b2 ⊢
    have hr : rungOf Ieee.single Z (-1074) = min ((D - 925) * 8388608 + rne Z D) 2139095040 := by
      unfold rungOf
      have hl : lastOf Ieee.single Z (-1074) = -1074 + (D : Int) := by unfold lastOf; rw [least32, show (Ieee.single.fractionBits : Int) = 23 from rfl]; omega
      rw [if_neg h0, hl, least32, binade32, inf32, show (-1074 : Int) - (-1074 + (D : Int)) = -(D : Int) by omega, rz_neg, show (-1074 + (D : Int) - -149).toNat = D - 925 by omega]
    rw [hr, ← htw]
    have hC0 : c * 2 ^ lostK Z ≠ 0 := Nat.mul_ne_zero (by omega) (by have := Nat.two_pow_pos (lostK Z); omega)
    rcases Nat.lt_or_ge c 9007199254740992 with k | k
    · have hlc : (c * 2 ^ lostK Z).log2 = Z.log2 := by
        rw [log2_mul_pow (by omega), hL, (Nat.log2_eq_iff (by omega)).2 ⟨show 2 ^ 52 ≤ c by omega, show c < 2 ^ 53 by omega⟩]
      unfold rungOf
      have hl : lastOf Ieee.single (c * 2 ^ lostK Z) (-1074) = -1074 + (D : Int) := by unfold lastOf; rw [least32, show (Ieee.single.fractionBits : Int) = 23 from rfl, hlc]; omega
      rw [if_neg hC0, hl, least32, binade32, inf32, show (-1074 : Int) - (-1074 + (D : Int)) = -(D : Int) by omega, rz_neg, show (-1074 + (D : Int) - -149).toNat = D - 925 by omega]
    · have hc1 : c = 2 ^ 53 := by omega
      have eC : c * 2 ^ lostK Z = 2 ^ (53 + lostK Z) := by rw [hc1, Nat.pow_add]
      have hlc : (c * 2 ^ lostK Z).log2 = Z.log2 + 1 := by rw [eC, Nat.log2_two_pow]; omega
      unfold rungOf
      rw [if_neg hC0]
      rcases Nat.lt_or_ge (Z.log2 - 23) 925 with j | j
      · have hl : lastOf Ieee.single (c * 2 ^ lostK Z) (-1074) = -1074 + (D : Int) := by unfold lastOf; rw [least32, show (Ieee.single.fractionBits : Int) = 23 from rfl, hlc]; omega
        rw [hl, least32, binade32, inf32, show (-1074 : Int) - (-1074 + (D : Int)) = -(D : Int) by omega, rz_neg, show (-1074 + (D : Int) - -149).toNat = D - 925 by omega]
      · have hl : lastOf Ieee.single (c * 2 ^ lostK Z) (-1074) = -1074 + ((D + 1 : Nat) : Int) := by unfold lastOf; rw [least32, show (Ieee.single.fractionBits : Int) = 23 from rfl, hlc]; omega
        rw [hl, least32, binade32, inf32, show (-1074 : Int) - (-1074 + ((D + 1 : Nat) : Int)) = -((D + 1 : Nat) : Int) by omega, rz_neg, show (-1074 + ((D + 1 : Nat) : Int) - -149).toNat = D + 1 - 925 by omega]
        have k1 : rne (c * 2 ^ lostK Z) (D + 1) = 8388608 := by
          rw [eC, show 53 + lostK Z = 23 + (D + 1) by omega, Nat.pow_add, rne_exact]
        have k2 : rne (c * 2 ^ lostK Z) D = 16777216 := by
          rw [eC, show 53 + lostK Z = 24 + D by omega, Nat.pow_add, rne_exact]
        rw [k1, k2, show (D + 1 - 925) * 8388608 + 8388608 = (D - 925) * 8388608 + 16777216 by omega]
/-- A word of binary64 made of a number, made narrow. -/
theorem told_twice {s : Bool} {Z : Nat} (hZ : Z.log2 ≤ 2000) (hmid : 0 < lostK Z → rne Z (lostK Z) * 2 ^ lostK Z % 2 ^ max (Z.log2 - 23) 925 = 2 ^ (max (Z.log2 - 23) 925 - 1) → rne Z (lostK Z) * 2 ^ lostK Z = Z) :
    toldD (some (Ieee.double.read (Ieee.double.word s (rungOf Ieee.double Z (-1074))))) = Ieee.single.word s (rungOf Ieee.single Z (-1074)) := by
  have hr : rungOf Ieee.double Z (-1074) < 9218868437227405312 := by
    rw [rung64_eq hZ]
    have := (kept_bd (M := Z)).1
    have : lostK Z ≤ 1948 := by unfold lostK; omega
    omega
  obtain ⟨a1, a2⟩ := sgn_word64 s (r := rungOf Ieee.double Z (-1074)) (by omega)
  rw [read_fin64 (by rw [a2]; exact hr), a1, a2, toldD_num, rung_word64, narrow_twice hZ hmid]
end Go.Proofs.Ytkgojnjlfkijiaa
/- What the reference's Zero and TimesNum return: the exact product. -/
namespace Go.Proofs.Ytkgojnjlfkijiaa
open Go.RowKit

def zeroB : RNum → Bool
  | ⟨some (.inr (_, n, _, m))⟩ => decide (n = 0) && !m
  | _ => false
/-- The cells that TimesNum reads and writes. -/
structure TBox (w wc : World) (va vb : Value) (e f : Int) : Prop where
  q : Q w wc
  a2 : wc.cell? ⟨w.heap.size, 2, none⟩ = some va
  a3 : wc.cell? ⟨w.heap.size, 3, none⟩ = some (.int .i64 e)
  b2 : wc.cell? ⟨w.heap.size + 1, 2, none⟩ = some vb
  b3 : wc.cell? ⟨w.heap.size + 1, 3, none⟩ = some (.int .i64 f)
  r : Res5 wc (w.heap.size + 1 + 1)
theorem TBox.next {w wc wd : World} {va vb : Value} {e f : Int} (h : TBox w wc va vb e f) (q : Q wc wd) : TBox w wd va vb e f :=
  ⟨h.q.trans q, q.cell h.a2, q.cell h.a3, q.cell h.b2, q.cell h.b3, h.r.next q⟩

/-- A product, digit by digit. -/
theorem prod_step (n k i : Nat) : n * (k % 4294967296 ^ (i + 1)) = n * (k % 4294967296 ^ i) + n * dig k i * 2 ^ (32 * i) := by
  unfold dig
  rw [Nat.pow_succ, Nat.mod_mul, Nat.mul_add, ← base_pow, Nat.mul_comm (4294967296 ^ i), ← Nat.mul_assoc]

/-- The exact product. -/
def timesR : RNum → RNum → RNum
  | ⟨none⟩, _ => .nan
  | ⟨some (.inl _)⟩, ⟨none⟩ => .nan
  | ⟨some (.inr _)⟩, ⟨none⟩ => .nan
  | ⟨some (.inl s)⟩, ⟨some (.inl t)⟩ => .inf (s != t)
  | ⟨some (.inl s)⟩, ⟨some (.inr (t, n, e, m))⟩ => if zeroB (.fin t n e m) = true then .nan else .inf (s != t)
  | ⟨some (.inr (s, n, e, m))⟩, ⟨some (.inl t)⟩ => if zeroB (.fin s n e m) = true then .nan else .inf (s != t)
  | ⟨some (.inr (s, n, e, _))⟩, ⟨some (.inr (t, k, f, _))⟩ => .fin (s != t) (n * k) (e + f) false

end Go.Proofs.Ytkgojnjlfkijiaa
