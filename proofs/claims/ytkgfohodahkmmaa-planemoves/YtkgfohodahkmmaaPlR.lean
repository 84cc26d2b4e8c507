/- Planes, whole: what is done with them, as functions of lists. -/
import Derived.Test.YtkgfohodahkmmaaPlQ
namespace Go.Proofs.Ytkgfohodahkmmaa
open Go.RowKit
set_option linter.unusedVariables false
set_option linter.unusedSimpArgs false

/-- A plane that may be, lying somewhere. -/
structure Pl (w : World) (g o n cap a b : Nat) (S : List Nat) : Prop where
  size : Size a b
  len : S.length = a * b
  eq : n = S.length
  room : n ≤ cap
  us : UIs w g o S
theorem Pl.next {w w' : World} {g o n cap a b : Nat} {S : List Nat} (h : Pl w g o n cap a b S) (q : Q w w') : Pl w' g o n cap a b S := ⟨h.size, h.len, h.eq, h.room, h.us.next q⟩
theorem Pl.usl {w : World} {g o n cap a b : Nat} {S : List Nat} (h : Pl w g o n cap a b S) : USl w (.slice (some ⟨g, o, none⟩) n cap) S := by
  have e := h.eq
  subst e
  exact h.us.usl h.room
theorem Pl.bd {w : World} {g o n cap a b : Nat} {S : List Nat} (h : Pl w g o n cap a b S) : S.length ≤ 65536 := by rw [h.len]; exact h.size.ab
/-- A plane that was made. -/
def Mk (w : World) (a b : Nat) (S : List Nat) (e : Ending) (w' : World) : Prop := ∃ g n, e = .returned (.tuple #[.agg #[.int .i64 (a : Int), .int .i64 (b : Int), .slice (some ⟨g, 0, none⟩) n n], .int .i64 0]) ∧ Q w w' ∧ w.heap.size ≤ g ∧ (∀ j, w'.frozen? ⟨g, j, none⟩ = false) ∧ Hid (Pl w' g 0 n n a b S)
theorem Made.mk {w : World} {a b : Nat} {S : List Nat} {e : Ending} {w' : World} (h : Made w a b S e w') (hs : Size a b) (hl : S.length = a * b) : Mk w a b S e w' := by
  obtain ⟨g, rfl, ho⟩ := h
  exact ⟨g, a * b, rfl, ho.q, ho.new, ho.free, ⟨hs, hl, hl.symm, Nat.le_refl _, ho.cells⟩⟩
/-- Flipped across, flipped, exchanged, turned, a piece. -/
def flX (a b : Nat) (S : List Nat) : List Nat := tab a b fun x y => smp S a (a - 1 - x) y
def flY (a b : Nat) (S : List Nat) : List Nat := tab a b fun x y => smp S a x (b - 1 - y)
def trL (a b : Nat) (S : List Nat) : List Nat := tab b a fun x y => smp S a y x
def tuL (q a b : Nat) (S : List Nat) : List Nat := tab (tuA q a b) (tuB q a b) (tuV q S a b)
def crL (a x0 y0 c d : Nat) (S : List Nat) : List Nat := tab c d fun x y => smp S a (x0 + x) (y0 + y)
theorem pl_flipx {w : World} {g o n cap a b : Nat} {S : List Nat} (h : Pl w g o n cap a b S) :
    Calls Try.prog 26 #[.agg #[.int .i64 (a : Int), .int .i64 (b : Int), .slice (some ⟨g, o, none⟩) n cap], .bool true] w (Mk w a b (flX a b S)) := by
  have e := h.eq
  subst e
  exact (flip_yes h.size h.len g o cap w h.us).mono fun e w' hm => hm.mk h.size (tab_length _ _ _)
theorem pl_flipy {w : World} {g o n cap a b : Nat} {S : List Nat} (h : Pl w g o n cap a b S) :
    Calls Try.prog 26 #[.agg #[.int .i64 (a : Int), .int .i64 (b : Int), .slice (some ⟨g, o, none⟩) n cap], .bool false] w (Mk w a b (flY a b S)) := by
  have e := h.eq
  subst e
  exact (flip_no h.size h.len g o cap w h.us).mono fun e w' hm => hm.mk h.size (tab_length _ _ _)
theorem pl_trans {w : World} {g o n cap a b : Nat} {S : List Nat} (h : Pl w g o n cap a b S) :
    Calls Try.prog 28 #[.agg #[.int .i64 (a : Int), .int .i64 (b : Int), .slice (some ⟨g, o, none⟩) n cap]] w (Mk w b a (trL a b S)) := by
  have e := h.eq
  subst e
  exact (trans_any h.size h.len g o cap w h.us).mono fun e w' hm => hm.mk h.size.swap (tab_length _ _ _)
theorem pl_turn {w : World} {g o n cap a b : Nat} {S : List Nat} (h : Pl w g o n cap a b S) (k : Int) {q : Nat} (hk : k % 4 = q) :
    Calls Try.prog 30 #[.agg #[.int .i64 (a : Int), .int .i64 (b : Int), .slice (some ⟨g, o, none⟩) n cap], .int .i64 k] w (Mk w (tuA q a b) (tuB q a b) (tuL q a b S)) := by
  have e := h.eq
  subst e
  exact (turn_good h.size h.len g o cap k hk w h.us).mono fun e w' hm => hm.mk (tu_size h.size) (tab_length _ _ _)
theorem pl_crop {w : World} {g o n cap a b : Nat} {S : List Nat} (h : Pl w g o n cap a b S) {x0 y0 c d : Nat} (hr : Rct a b x0 y0 c d) (XX YY : Int) (hXX : XX = (x0 + c : Nat)) (hYY : YY = (y0 + d : Nat)) :
    Calls Try.prog 22 #[.agg #[.int .i64 (a : Int), .int .i64 (b : Int), .slice (some ⟨g, o, none⟩) n cap], .agg #[.int .i64 (x0 : Int), .int .i64 (y0 : Int), .int .i64 XX, .int .i64 YY]] w (Mk w c d (crL a x0 y0 c d S)) := by
  have e := h.eq
  subst e
  exact (crop_good h.size h.len g o cap hr XX YY hXX hYY w h.us).mono fun e w' hm => hm.mk (hr.size h.size) (tab_length _ _ _)
theorem pl_paste {w : World} {g o n cap a b : Nat} {S : List Nat} (h : Pl w g o n cap a b S) {g' o' n' cap' c d : Nat} {T : List Nat} (h' : Pl w g' o' n' cap' c d T) (X Y : Int) :
    Calls Try.prog 24 #[.agg #[.int .i64 (a : Int), .int .i64 (b : Int), .slice (some ⟨g, o, none⟩) n cap], .agg #[.int .i64 (c : Int), .int .i64 (d : Int), .slice (some ⟨g', o', none⟩) n' cap'], .int .i64 X, .int .i64 Y] w (Mk w a b (tab a b (pasV S a T c d X Y))) := by
  have e := h.eq
  subst e
  have e' := h'.eq
  subst e'
  exact (paste_good h.size h.len g o cap h'.size h'.len g' o' cap' X Y w h.us h'.us).mono fun e w' hm => hm.mk h.size (tab_length _ _ _)
theorem pl_ext {w : World} {g o n cap a b : Nat} {S : List Nat} (h : Pl w g o n cap a b S) (k : Int) (l t r1 b1 : Nat) (hk : k = 1 ∨ k = 2 ∨ k = 3) (l2 : l ≤ 1024) (t2 : t ≤ 1024) (r2 : r1 ≤ 1024) (bb2 : b1 ≤ 1024) (hz : Size (l + a + r1) (t + b + b1)) :
    Calls Try.prog 35 #[.agg #[.int .i64 (a : Int), .int .i64 (b : Int), .slice (some ⟨g, o, none⟩) n cap], .int .i64 k, .int .i64 (l : Int), .int .i64 (t : Int), .int .i64 (r1 : Int), .int .i64 (b1 : Int)] w (Mk w (l + a + r1) (t + b + b1) (tab (l + a + r1) (t + b + b1) (extV S a b k l t))) := by
  have e := h.eq
  subst e
  exact (ext_good h.size h.len g o cap k l t r1 b1 hk l2 t2 r2 bb2 hz w h.us).mono fun e w' hm => hm.mk hz (tab_length _ _ _)
/-- The document's Equal of two planes that are the same. -/
theorem pl_same {w : World} {g o n cap a b g' o' n' cap' a' b' : Nat} {S S' : List Nat} (h : Pl w g o n cap a b S) (h' : Pl w g' o' n' cap' a' b' S') (ha : a = a') (hb : b = b') (hS : S = S') :
    Calls Try.prog 39 #[.agg #[.int .i64 (a : Int), .int .i64 (b : Int), .slice (some ⟨g, o, none⟩) n cap], .agg #[.int .i64 (a' : Int), .int .i64 (b' : Int), .slice (some ⟨g', o', none⟩) n' cap']] w fun e w' => e = .returned (.bool true) ∧ Q w w' := by
  subst ha hb hS
  have := requal_any (a : Int) (b : Int) _ S (a : Int) (b : Int) _ S w h.usl h'.usl (by have := h.bd; omega) (by have := h.bd; omega)
  rw [eqB_true.2 ⟨rfl, rfl, rfl⟩] at this
  exact this

theorem flX_flX {a b : Nat} {S : List Nat} (h : S.length = a * b) : flX a b (flX a b S) = S := by
  conv => rhs; rw [← tab_self h]
  refine tab_ext fun x y hx hy => ?_
  unfold flX
  rw [smp_tab (by omega) hy]
  congr 1; omega
theorem flY_flY {a b : Nat} {S : List Nat} (h : S.length = a * b) : flY a b (flY a b S) = S := by
  conv => rhs; rw [← tab_self h]
  refine tab_ext fun x y hx hy => ?_
  unfold flY
  rw [smp_tab hx (by omega)]
  congr 1; omega
theorem trL_trL {a b : Nat} {S : List Nat} (h : S.length = a * b) : trL b a (trL a b S) = S := by
  conv => rhs; rw [← tab_self h]
  refine tab_ext fun x y hx hy => ?_
  unfold trL
  rw [smp_tab hy hx]
theorem tuL_one {a b : Nat} {S : List Nat} : tuL 1 a b S = flX b a (trL a b S) := by
  refine tab_ext fun x y hx hy => ?_
  have hx : x < b := hx
  have hy : y < a := hy
  unfold trL
  rw [smp_tab (by omega) hy]
  rfl
theorem tuL_zero {a b : Nat} {S : List Nat} (h : S.length = a * b) : tuL 0 a b S = S := by
  conv => rhs; rw [← tab_self h]
  exact tab_ext fun x y hx hy => rfl
theorem tuL_two {a b : Nat} {S : List Nat} : flY a b (flX a b S) = tuL 2 a b S := by
  refine tab_ext fun x y hx hy => ?_
  unfold flX
  rw [smp_tab hx (by omega)]
  rfl
theorem tuA_add {q1 q2 q3 a b : Nat} (h1 : q1 < 4) (h2 : q2 < 4) (h3 : (q1 + q2) % 4 = q3) : tuA q2 (tuA q1 a b) (tuB q1 a b) = tuA q3 a b ∧ tuB q2 (tuA q1 a b) (tuB q1 a b) = tuB q3 a b := by
  obtain rfl | rfl | rfl | rfl : q1 = 0 ∨ q1 = 1 ∨ q1 = 2 ∨ q1 = 3 := by omega
  all_goals (obtain rfl | rfl | rfl | rfl : q2 = 0 ∨ q2 = 1 ∨ q2 = 2 ∨ q2 = 3 := by omega)
  all_goals (subst h3; exact ⟨rfl, rfl⟩)
theorem tuL_add {q1 q2 q3 a b : Nat} {S : List Nat} (h1 : q1 < 4) (h2 : q2 < 4) (h3 : (q1 + q2) % 4 = q3) (hS : Size a b) : tuL q2 (tuA q1 a b) (tuB q1 a b) (tuL q1 a b S) = tuL q3 a b S := by
  have ha := hS.a1
  have hb := hS.b1
  obtain rfl | rfl | rfl | rfl : q1 = 0 ∨ q1 = 1 ∨ q1 = 2 ∨ q1 = 3 := by omega
  all_goals (obtain rfl | rfl | rfl | rfl : q2 = 0 ∨ q2 = 1 ∨ q2 = 2 ∨ q2 = 3 := by omega)
  all_goals subst h3
  all_goals refine tab_ext fun x y hx hy => ?_
  all_goals (simp only [tuA, tuB, tuV, tuL] at hx hy ⊢; simp at hx hy ⊢)
  all_goals rw [smp_tab (by omega) (by omega)]
  all_goals first | rfl | (simp only [tuV]; simp; first | done | (congr 1 <;> omega))
end Go.Proofs.Ytkgfohodahkmmaa
