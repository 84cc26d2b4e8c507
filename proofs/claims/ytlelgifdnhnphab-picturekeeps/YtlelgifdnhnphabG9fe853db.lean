/- Keys of samples as plain numbers; what Key and FromKey return. -/
import Derived.Test.YtlelgifdnhnphabG8e58334a
import Derived.Test.YtlelgifdnhnphabGc8dd0857
import Derived.Test.YtlelgifdnhnphabG38032af5
namespace Go.Proofs.Ytlelgifdnhnphab
open Go.RowKit

def keyN (s : Nat) : Nat := if s < 2147483648 then s + 2147483648 else 4294967295 - s
def fkeyN (k : Nat) : Nat := if 2147483648 ≤ k then k - 2147483648 else 4294967295 - k
theorem keyN_lt {s : Nat} (h : s < 4294967296) : keyN s < 4294967296 := by unfold keyN; split <;> omega
theorem fkeyN_lt {s : Nat} (h : s < 4294967296) : fkeyN s < 4294967296 := by unfold fkeyN; split <;> omega
theorem keyV_N {s : Nat} (h : s < 4294967296) : keyV (s : Int) = (keyN s : Int) := by
  unfold keyN
  by_cases g : s < 2147483648
  · rw [keyV_lo (by omega), if_pos g]; omega
  · rw [keyV_hi (by omega), if_neg g]; omega
theorem keyN_inj {a b : Nat} (ha : a < 4294967296) (hb : b < 4294967296) (h : keyN a = keyN b) : a = b := by
  unfold keyN at h; split at h <;> split at h <;> omega
theorem fkey_key {s : Nat} (h : s < 4294967296) : fkeyN (keyN s) = s := by
  unfold keyN fkeyN; split <;> split <;> omega
theorem key_fkey {k : Nat} (h : k < 4294967296) : keyN (fkeyN k) = k := by
  unfold keyN fkeyN; split <;> split <;> omega

theorem not_hi (k : Int) (h0 : 2147483648 ≤ k) (h1 : k ≤ 4294967295) : bits .andNot .u32 k 2147483648 = k - 2147483648 := by go_bits2
set_option maxHeartbeats 400000 in
theorem keyn_any (s : Nat) (h1 : s < 4294967296) (w : World) :
    Calls Try.prog 63 #[.int .u32 s] w fun e w' => e = .returned (.int .u32 (keyN s : Nat)) ∧ w' = w := by
  have := key_any s (by omega) (by omega) w
  rw [keyV_N h1] at this
  exact this
end Go.Proofs.Ytlelgifdnhnphab
/- Lifting: keys that go round; what Lift and Drop return, the program's and the document's. -/
namespace Go.Proofs.Ytlelgifdnhnphab
open Go.RowKit
set_option linter.unusedVariables false

/-- A half, rounded down, of a number that goes round 2^32. -/
def hlfN (d : Nat) : Nat := if d < 2147483648 then d / 2 else d / 2 + 2147483648
theorem hlfN_lt {d : Nat} (h : d < 4294967296) : hlfN d < 4294967296 := by unfold hlfN; split <;> omega
def addN (a b : Nat) : Nat := (a + b) % 4294967296
def lesN (a b : Nat) : Nat := (a + 4294967296 - b) % 4294967296
theorem addN_lt (a b : Nat) : addN a b < 4294967296 := Nat.mod_lt _ (by decide)
theorem lesN_lt (a b : Nat) : lesN a b < 4294967296 := Nat.mod_lt _ (by decide)
theorem addN_comm (a b : Nat) : addN a b = addN b a := by unfold addN; rw [Nat.add_comm]
theorem add_e (a b : Nat) : ((a : Int) + (b : Int)) % 4294967296 = (addN a b : Nat) := by unfold addN; omega
theorem sub_e (a b : Nat) (hb : b < 4294967296) : ((a : Int) - (b : Int)) % 4294967296 = (lesN a b : Nat) := by unfold lesN; omega
theorem add_h (a : Nat) : ((a : Int) + 2147483648) % 4294967296 = (addN a 2147483648 : Nat) := by unfold addN; omega
theorem sub_h (a : Nat) : ((a : Int) - 2147483648) % 4294967296 = (lesN a 2147483648 : Nat) := by unfold lesN; omega
theorem sp_drewN {a b : World} (h : Q a b) (n : Nat) : Q a (b.drewN n) := h.trans ⟨⟨rfl, rfl, rfl, Nat.le_refl _, fun _ _ => rfl⟩, fun _ => rfl⟩
def lcoN (r b : Nat) : Nat := lesN (keyN r) (keyN b)
def ltN (r b : Nat) : Nat := addN (keyN b) (hlfN (lcoN r b))
def lcgN (r g b : Nat) : Nat := lesN (keyN g) (ltN r b)
def lyN (r g b : Nat) : Nat := addN (ltN r b) (hlfN (lcgN r g b))
def lift0 (r g b : Nat) : Nat := fkeyN (lyN r g b)
def lift1 (r g b : Nat) : Nat := fkeyN (addN (lcgN r g b) 2147483648)
def lift2 (r g b : Nat) : Nat := fkeyN (addN (lcoN r b) 2147483648)
def dfN (d : Nat) : Nat := lesN (keyN d) 2147483648
def dtN (y cg : Nat) : Nat := lesN (keyN y) (hlfN (dfN cg))
def dbN (y cg co : Nat) : Nat := lesN (dtN y cg) (hlfN (dfN co))
def drop0 (y cg co : Nat) : Nat := fkeyN (addN (dbN y cg co) (dfN co))
def drop1 (y cg co : Nat) : Nat := fkeyN (addN (dfN cg) (dtN y cg))
def drop2 (y cg co : Nat) : Nat := fkeyN (dbN y cg co)
def a3 (x y z : Nat) : Value := .agg #[.int .u32 (x : Nat), .int .u32 (y : Nat), .int .u32 (z : Nat)]
def t3 (x y z : Nat) : Value := .tuple #[.int .u32 (x : Nat), .int .u32 (y : Nat), .int .u32 (z : Nat)]
/-- A method's three samples in a box, and the box of its answer. -/
structure B3 (w wz : World) (r g b : Nat) : Prop where
  q : Q w wz
  d0 : wz.cell? ⟨w.heap.size + 1, 0, none⟩ = some (.int .u32 (r : Int))
  d1 : wz.cell? ⟨w.heap.size + 1, 1, none⟩ = some (.int .u32 (g : Int))
  d2 : wz.cell? ⟨w.heap.size + 1, 2, none⟩ = some (.int .u32 (b : Int))
  k0 : wz.cell? ⟨w.heap.size + 1 + 1, 0, none⟩ = some (.int .u32 0)
  k1 : wz.cell? ⟨w.heap.size + 1 + 1, 1, none⟩ = some (.int .u32 0)
  k2 : wz.cell? ⟨w.heap.size + 1 + 1, 2, none⟩ = some (.int .u32 0)
  f0 : wz.frozen? ⟨w.heap.size + 1 + 1, 0, none⟩ = false
  f1 : wz.frozen? ⟨w.heap.size + 1 + 1, 1, none⟩ = false
  f2 : wz.frozen? ⟨w.heap.size + 1 + 1, 2, none⟩ = false
theorem B3.next {w wz w4 : World} {r g b : Nat} (h : B3 w wz r g b) (q : Q wz w4) : B3 w w4 r g b :=
  ⟨h.q.trans q, q.cell h.d0, q.cell h.d1, q.cell h.d2, q.cell h.k0, q.cell h.k1, q.cell h.k2, (q.2 _).trans h.f0, (q.2 _).trans h.f1, (q.2 _).trans h.f2⟩
theorem and_low32 (n : Int) : bits .and .i64 n 4294967295 = n % 4294967296 := by
  show IntKind.i64.wrap ((BitVec.ofInt 64 n &&& BitVec.ofInt 64 4294967295).toNat : Int) = _
  rw [BitVec.toNat_and, BitVec.toNat_ofInt, BitVec.toNat_ofInt, show ((4294967295 : Int) % ((2 ^ 64 : Nat) : Int)).toNat = 2 ^ 32 - 1 from by decide, Nat.and_two_pow_sub_one_eq_mod, IntKind.wrap_i64]
  omega
theorem tm_even {n : Int} (h : n % 2 = 0) : n.tmod 2 = 0 := Int.tmod_eq_zero_of_dvd (by omega)
theorem tm_odd {n : Int} (h : n % 2 = 1) : n.tmod 2 ≠ 0 := fun e => by have := Int.dvd_of_tmod_eq_zero e; omega
theorem td_even {n : Int} (h : n % 2 = 0) : n.tdiv 2 = n / 2 := by
  obtain ⟨k, rfl⟩ : ∃ k, n = 2 * k := ⟨n / 2, by omega⟩
  rw [Int.mul_tdiv_cancel_left _ (by decide)]; omega
end Go.Proofs.Ytlelgifdnhnphab
/- Mixing: what is done to the first three samples of each place. -/
namespace Go.Proofs.Ytlelgifdnhnphab
open Go.RowKit
set_option linter.unusedVariables false
set_option linter.unusedSimpArgs false

/-- A function of three samples. -/
structure Fun3 (f : FuncId) (recv : Value) (F0 F1 F2 : Nat → Nat → Nat → Nat) : Prop where
  en : ∀ (args : Array Value) (x : World), (callFunc f args).run Try.prog x = .ok (.enter f args) x
  c : ∀ (r s t : Nat), r < 4294967296 → s < 4294967296 → t < 4294967296 → ∀ x : World, Calls Try.prog f #[recv, .agg #[.int .u32 (r : Int), .int .u32 (s : Int), .int .u32 (t : Int)]] x fun e x' => e = .returned (.agg #[.int .u32 ((F0 r s t : Nat) : Int), .int .u32 ((F1 r s t : Nat) : Int), .int .u32 ((F2 r s t : Nat) : Int)]) ∧ Q x x'
  lt : ∀ (r s t : Nat), r < 4294967296 → s < 4294967296 → t < 4294967296 → F0 r s t < 4294967296 ∧ F1 r s t < 4294967296 ∧ F2 r s t < 4294967296
theorem set_ex {w : World} {p : Addr} (q : Addr) (v : Value) (h : ∃ u, w.cell? p = some u) : ∃ u, (w.setCell q v).cell? p = some u := by
  obtain ⟨u, hu⟩ := h
  by_cases e : p = q
  · subst e; exact ⟨v, World.cell?_setCell_same _ _ _ hu⟩
  · exact ⟨u, (World.cell?_setCell_other _ _ _ _ (fun e' => e e'.symm)).trans hu⟩
/-- Three planes, the first i places mixed. -/
def mixT (F : Nat → Nat → Nat → Nat) (S0 S1 S2 S : List Nat) (i j : Nat) : Nat := if j < i then F (S0.getD j 0) (S1.getD j 0) (S2.getD j 0) else S.getD j 0
structure W3 (w1 wx : World) (y0 y1 y2 : PL) (N : Nat) (t0 t1 t2 : Nat → Nat) : Prop where
  u0 : ∀ j, j < N → wx.cell? ⟨y0.g, y0.o + j, none⟩ = some (.int .u32 ((t0 j : Nat) : Int))
  u1 : ∀ j, j < N → wx.cell? ⟨y1.g, y1.o + j, none⟩ = some (.int .u32 ((t1 j : Nat) : Int))
  u2 : ∀ j, j < N → wx.cell? ⟨y2.g, y2.o + j, none⟩ = some (.int .u32 ((t2 j : Nat) : Int))
  fr : Fr w1 wx (fun b => b ≠ y0.g ∧ b ≠ y1.g ∧ b ≠ y2.g)
  ex : ∀ (p : Addr) (v : Value), w1.cell? p = some v → ∃ u, wx.cell? p = some u
theorem W3.next {w1 wx wy : World} {y0 y1 y2 : PL} {N : Nat} {t0 t1 t2 : Nat → Nat} (h : W3 w1 wx y0 y1 y2 N t0 t1 t2) (q : Q wx wy) : W3 w1 wy y0 y1 y2 N t0 t1 t2 :=
  ⟨fun j hj => q.cell (h.u0 j hj), fun j hj => q.cell (h.u1 j hj), fun j hj => q.cell (h.u2 j hj), h.fr.trans (q.fr _), fun p v hp => by obtain ⟨u, hu⟩ := h.ex p v hp; exact ⟨u, q.cell hu⟩⟩
theorem W3.set {w1 wx : World} {y0 y1 y2 : PL} {N : Nat} {F0 F1 F2 : Nat → Nat → Nat → Nat} {S0 S1 S2 : List Nat} {i : Nat} (h : W3 w1 wx y0 y1 y2 N (mixT F0 S0 S1 S2 S0 i) (mixT F1 S0 S1 S2 S1 i) (mixT F2 S0 S1 S2 S2 i)) (hi : i < N) (n01 : y0.g ≠ y1.g) (n02 : y0.g ≠ y2.g) (n12 : y1.g ≠ y2.g)
    {U V Z : Nat} (hU : F0 (S0.getD i 0) (S1.getD i 0) (S2.getD i 0) = U) (hV : F1 (S0.getD i 0) (S1.getD i 0) (S2.getD i 0) = V) (hZ : F2 (S0.getD i 0) (S1.getD i 0) (S2.getD i 0) = Z) :
    W3 w1 (((wx.setCell ⟨y0.g, y0.o + i, none⟩ (.int .u32 (U : Int))).setCell ⟨y1.g, y1.o + i, none⟩ (.int .u32 (V : Int))).setCell ⟨y2.g, y2.o + i, none⟩ (.int .u32 (Z : Int))) y0 y1 y2 N (mixT F0 S0 S1 S2 S0 (i + 1)) (mixT F1 S0 S1 S2 S1 (i + 1)) (mixT F2 S0 S1 S2 S2 (i + 1)) := by
  have key : ∀ (F : Nat → Nat → Nat → Nat) (S : List Nat) (j : Nat), j ≠ i → mixT F S0 S1 S2 S (i + 1) j = mixT F S0 S1 S2 S i j := fun F S j hj => by
    unfold mixT
    by_cases h : j < i
    · rw [if_pos h, if_pos (by omega)]
    · rw [if_neg h, if_neg (by omega)]
  have key2 : ∀ (F : Nat → Nat → Nat → Nat) (S : List Nat), mixT F S0 S1 S2 S (i + 1) i = F (S0.getD i 0) (S1.getD i 0) (S2.getD i 0) := fun F S => by
    unfold mixT; rw [if_pos (by omega)]
  refine ⟨fun j hj => ?_, fun j hj => ?_, fun j hj => ?_, ?_, fun p v hp => set_ex _ _ (set_ex _ _ (set_ex _ _ (h.ex p v hp)))⟩
  · rw [World.cell?_setCell_other _ _ _ _ (by simp <;> omega), World.cell?_setCell_other _ _ _ _ (by simp <;> omega)]
    by_cases e : j = i
    · subst e; rw [key2, hU]; exact World.cell?_setCell_same _ _ _ (h.u0 j hj)
    · rw [World.cell?_setCell_other _ _ _ _ (by simp <;> omega), key _ _ _ e]; exact h.u0 j hj
  · rw [World.cell?_setCell_other _ _ _ _ (by simp <;> omega)]
    by_cases e : j = i
    · subst e; rw [key2, hV]
      exact World.cell?_setCell_same _ _ _ ((World.cell?_setCell_other _ _ _ _ (by simp <;> omega)).trans (h.u1 j hj))
    · rw [World.cell?_setCell_other _ _ _ _ (by simp <;> omega), World.cell?_setCell_other _ _ _ _ (by simp <;> omega), key _ _ _ e]; exact h.u1 j hj
  · by_cases e : j = i
    · subst e; rw [key2, hZ]
      exact World.cell?_setCell_same _ _ _ ((World.cell?_setCell_other _ _ _ _ (by simp <;> omega)).trans ((World.cell?_setCell_other _ _ _ _ (by simp <;> omega)).trans (h.u2 j hj)))
    · rw [World.cell?_setCell_other _ _ _ _ (by simp <;> omega), World.cell?_setCell_other _ _ _ _ (by simp <;> omega), World.cell?_setCell_other _ _ _ _ (by simp <;> omega), key _ _ _ e]; exact h.u2 j hj
  · exact ((h.fr.set (fun h => h.1 rfl) _).set (fun h => h.2.1 rfl) _).set (fun h => h.2.2 rfl) _
def mix3 (F : Nat → Nat → Nat → Nat) (S0 S1 S2 : List Nat) : List Nat := (List.range S0.length).map fun i => F (S0.getD i 0) (S1.getD i 0) (S2.getD i 0)
theorem mix3_len (F : Nat → Nat → Nat → Nat) (S0 S1 S2 : List Nat) : (mix3 F S0 S1 S2).length = S0.length := by simp [mix3]
theorem mix3_get {F : Nat → Nat → Nat → Nat} {S0 S1 S2 : List Nat} {i : Nat} (h : i < S0.length) : (mix3 F S0 S1 S2).getD i 0 = F (S0.getD i 0) (S1.getD i 0) (S2.getD i 0) := by
  unfold mix3
  rw [List.getD_eq_getElem?_getD, List.getElem?_map, List.getElem?_range h]; rfl
/-- The planes of a picture whose first three are mixed. -/
def mixL (F0 F1 F2 : Nat → Nat → Nat → Nat) : List (List Nat) → List (List Nat)
  | S0 :: S1 :: S2 :: r => mix3 F0 S0 S1 S2 :: mix3 F1 S0 S1 S2 :: mix3 F2 S0 S1 S2 :: r
  | l => l
theorem mixT_all (F : Nat → Nat → Nat → Nat) (S0 S1 S2 S : List Nat) {N j : Nat} (hN : S0.length = N) (hj : j < N) : mixT F S0 S1 S2 S N j = (mix3 F S0 S1 S2).getD j 0 := by
  unfold mixT; rw [if_pos hj, mix3_get (by omega)]
theorem Mine.mixed {lo N : Nat} {w4 wr : World} {y : PL} (h : Mine lo w4 N y) (hsz : w4.heap.size ≤ wr.heap.size) (fz : ∀ p, wr.frozen? p = w4.frozen? p) (ex : ∀ (p : Addr) (v : Value), w4.cell? p = some v → ∃ u, wr.cell? p = some u) {T : List Nat} (hT : T.length = N) (hu : ∀ j, j < N → wr.cell? ⟨y.g, y.o + j, none⟩ = some (.int .u32 ((T.getD j 0 : Nat) : Int))) (hlt : ∀ i, T.getD i 0 < 4294967296) : Mine lo wr N { y with S := T } :=
  ⟨h.o, h.low, Nat.lt_of_lt_of_le h.high hsz, ⟨hT, by have := h.gd.room; have := h.gd.len; show T.length ≤ y.cap; omega, fun j hj => hu j (by have : j < T.length := hj; omega), hlt⟩, fun j => (fz _).trans (h.free j), fun j hj => by obtain ⟨u, hu⟩ := h.all j hj; exact ex _ _ hu, h.cm⟩
theorem mix3_lt {F : Nat → Nat → Nat → Nat} {S0 S1 S2 : List Nat} (h : ∀ i, F (S0.getD i 0) (S1.getD i 0) (S2.getD i 0) < 4294967296) (i : Nat) : (mix3 F S0 S1 S2).getD i 0 < 4294967296 := by
  by_cases hi : i < S0.length
  · rw [mix3_get hi]; exact h i
  · rw [List.getD_eq_getElem?_getD, List.getElem?_eq_none (by rw [mix3_len]; omega)]; decide
theorem Nw.mixed {lo g1 cap1 a b : Nat} {w4 wr : World} {y0 y1 y2 : PL} {Mr : List PL} (h : Nw lo w4 g1 cap1 a b (y0 :: y1 :: y2 :: Mr)) {S0 S1 S2 : List Nat} {F0 F1 F2 : Nat → Nat → Nat → Nat} (hS : y0.S = S0 ∧ y1.S = S1 ∧ y2.S = S2)
    (W : W3 w4 wr y0 y1 y2 (a * b) (mixT F0 S0 S1 S2 S0 (a * b)) (mixT F1 S0 S1 S2 S1 (a * b)) (mixT F2 S0 S1 S2 S2 (a * b))) (hlt : ∀ r s t, r < 4294967296 → s < 4294967296 → t < 4294967296 → F0 r s t < 4294967296 ∧ F1 r s t < 4294967296 ∧ F2 r s t < 4294967296) :
    Nw lo wr g1 cap1 a b ({ y0 with S := mix3 F0 S0 S1 S2 } :: { y1 with S := mix3 F1 S0 S1 S2 } :: { y2 with S := mix3 F2 S0 S1 S2 } :: Mr) := by
  obtain ⟨k0, k0'⟩ := h.it y0 (by simp)
  obtain ⟨k1, k1'⟩ := h.it y1 (by simp)
  obtain ⟨k2, k2'⟩ := h.it y2 (by simp)
  have l0 : S0.length = a * b := by rw [← hS.1]; exact k0.gd.len
  have l1 : S1.length = a * b := by rw [← hS.2.1]; exact k1.gd.len
  have l2 : S2.length = a * b := by rw [← hS.2.2]; exact k2.gd.len
  have b0 : ∀ i, S0.getD i 0 < 4294967296 := by rw [← hS.1]; exact k0.gd.lt
  have b1 : ∀ i, S1.getD i 0 < 4294967296 := by rw [← hS.2.1]; exact k1.gd.lt
  have b2 : ∀ i, S2.getD i 0 < 4294967296 := by rw [← hS.2.2]; exact k2.gd.lt
  have M0 : Mine lo wr (a * b) { y0 with S := mix3 F0 S0 S1 S2 } := k0.mixed W.fr.size W.fr.frz W.ex (by rw [mix3_len]; exact l0) (fun j hj => by rw [← mixT_all F0 S0 S1 S2 S0 l0 hj]; exact W.u0 j hj) (mix3_lt (fun i => (hlt _ _ _ (b0 i) (b1 i) (b2 i)).1))
  have M1 : Mine lo wr (a * b) { y1 with S := mix3 F1 S0 S1 S2 } := k1.mixed W.fr.size W.fr.frz W.ex (by rw [mix3_len]; exact l0) (fun j hj => by rw [← mixT_all F1 S0 S1 S2 S1 l0 hj]; exact W.u1 j hj) (mix3_lt (fun i => (hlt _ _ _ (b0 i) (b1 i) (b2 i)).2.1))
  have M2 : Mine lo wr (a * b) { y2 with S := mix3 F2 S0 S1 S2 } := k2.mixed W.fr.size W.fr.frz W.ex (by rw [mix3_len]; exact l0) (fun j hj => by rw [← mixT_all F2 S0 S1 S2 S2 l0 hj]; exact W.u2 j hj) (mix3_lt (fun i => (hlt _ _ _ (b0 i) (b1 i) (b2 i)).2.2))
  have hap := h.ap
  simp only [List.pairwise_cons, List.mem_cons] at hap
  obtain ⟨p0, p1, p2, p3⟩ := hap
  have it : ∀ x ∈ ({ y0 with S := mix3 F0 S0 S1 S2 } :: { y1 with S := mix3 F1 S0 S1 S2 } :: { y2 with S := mix3 F2 S0 S1 S2 } :: Mr : List PL), Mine lo wr (a * b) x ∧ x.g ≠ g1 := fun x hx => by
    simp only [List.mem_cons] at hx
    rcases hx with rfl | rfl | rfl | hx
    · exact ⟨M0, k0'⟩
    · exact ⟨M1, k1'⟩
    · exact ⟨M2, k2'⟩
    · obtain ⟨q1, q2⟩ := h.it x (by simp [hx])
      exact ⟨q1.keep W.fr ⟨fun e => p0 x (Or.inr (Or.inr hx)) e.symm, fun e => p1 x (Or.inr hx) e.symm, fun e => p2 x hx e.symm⟩, q2⟩
  have row : PIs wr g1 0 a b (y0 :: y1 :: y2 :: Mr) := W.fr.pis h.pc.row ⟨fun e => k0' e.symm, fun e => k1' e.symm, fun e => k2' e.symm⟩
  have vv : ∀ (y : PL) (T : List Nat), T.length = y.S.length → PL.v { y with S := T } = y.v := fun y T hT => by show Value.slice _ T.length _ = _; rw [hT]; rfl
  refine ⟨⟨h.pc.size, by simp, by have := h.pc.n4; simpa using this, fun i x hx => ?_, fun x hx => (it x hx).1.gd⟩, h.low, Nat.lt_of_lt_of_le h.high W.fr.size, by have := h.room; simpa using this, fun j => (W.fr.frz _).trans (h.free j), it, ?_⟩
  · match i, hx with
    | 0, hx =>
      have hx := Option.some.inj hx
      rw [← hx, vv y0 _ (by rw [mix3_len, hS.1])]
      exact row 0 y0 rfl
    | 1, hx =>
      have hx := Option.some.inj hx
      rw [← hx, vv y1 _ (by rw [mix3_len, l0, hS.2.1, l1])]
      exact row 1 y1 rfl
    | 2, hx =>
      have hx := Option.some.inj hx
      rw [← hx, vv y2 _ (by rw [mix3_len, l0, hS.2.2, l2])]
      exact row 2 y2 rfl
    | i + 3, hx => exact row (i + 3) x (by simpa using hx)
  · simp only [List.pairwise_cons, List.mem_cons]
    refine ⟨fun x hx => ?_, fun x hx => ?_, p2, p3⟩
    · rcases hx with rfl | rfl | hx
      · exact p0 y1 (Or.inl rfl)
      · exact p0 y2 (Or.inr (Or.inl rfl))
      · exact p0 x (Or.inr (Or.inr hx))
    · rcases hx with rfl | hx
      · exact p1 y2 (Or.inl rfl)
      · exact p1 x (Or.inr hx)
theorem run_store1 {ρ : Operand → Value} {o : Oper} {s u : Operand} (ho : o.op = .store 25 s u) {x : World} {p : Addr} {v : Int} {c : Value} (hs : ρ s = .pointer (some p)) (hu : ρ u = .int .u32 v) (hc : x.cell? p = some c) (hf : x.frozen? p = false) : (execOp ρ o).run Try.prog x = .ok .skip (x.setCell p (.int .u32 v)) := by
  obtain ⟨dst, op, ty, ps, af, g⟩ := o
  have ho : op = _ := ho
  subst ho
  simp [execOp, hs, hu, go_sem, hc, hf]
end Go.Proofs.Ytlelgifdnhnphab
