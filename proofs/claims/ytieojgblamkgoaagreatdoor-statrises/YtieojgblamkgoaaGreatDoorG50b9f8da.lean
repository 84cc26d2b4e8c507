/- Planes turned: the program's Turn. -/
import Derived.Test.YtieojgblamkgoaaGreatDoorG46371552
import Derived.Deep.RegionWith
import Derived.Test.YtieojgblamkgoaaGreatDoorG5ac80c9f
import Derived.Test.YtieojgblamkgoaaGreatDoorGf88f0262
import Derived.Test.YtieojgblamkgoaaGreatDoorG68e1c248
import Derived.Test.YtieojgblamkgoaaGreatDoorGa05f826a
namespace Go.Proofs.YtieojgblamkgoaaGreatDoor
open Go.RowKit
end Go.Proofs.YtieojgblamkgoaaGreatDoor
/- Planes made greater: the program's Extend; Get. -/
namespace Go.Proofs.YtieojgblamkgoaaGreatDoor
open Go.RowKit
set_option linter.unusedVariables false
set_option linter.unusedSimpArgs false

def mn2 (x y : Int) : Int := if y < x then y else x
def mx2 (x y : Int) : Int := if x < y then y else x
theorem run_min4 {P : Program} (ts : Array TypeId) (t : TypeId) (x y z u : Int) (w : World) : (Builtin.min_ ts t #[.int .i64 x, .int .i64 y, .int .i64 z, .int .i64 u]).run P w = .ok (.int .i64 (mn2 (mn2 (mn2 x y) z) u)) w := by
  unfold mn2
  simp [Builtin.min_, Builtin.min2]
theorem run_max4 {P : Program} (ts : Array TypeId) (t : TypeId) (x y z u : Int) (w : World) : (Builtin.max_ ts t #[.int .i64 x, .int .i64 y, .int .i64 z, .int .i64 u]).run P w = .ok (.int .i64 (mx2 (mx2 (mx2 x y) z) u)) w := by
  unfold mx2
  simp [Builtin.max_, Builtin.max2]
theorem mn4_lt {x y z u : Int} : mn2 (mn2 (mn2 x y) z) u < 0 ↔ x < 0 ∨ y < 0 ∨ z < 0 ∨ u < 0 := by
  unfold mn2
  split <;> split <;> split <;> omega
theorem mx4_gt {x y z u c : Int} : c < mx2 (mx2 (mx2 x y) z) u ↔ c < x ∨ c < y ∨ c < z ∨ c < u := by
  unfold mx2
  split <;> split <;> split <;> omega
/-- What Extend refuses. -/
def extE (k l t r b : Int) (a' b' : Nat) : Int := if k = 1 ∨ k = 2 ∨ k = 3 then (if l < 0 ∨ t < 0 ∨ r < 0 ∨ b < 0 then 52 else if 1024 < l ∨ 1024 < t ∨ 1024 < r ∨ 1024 < b then 50 else if sizeB (l + a' + r) (t + b' + b) = true then 0 else 50) else 53
theorem extE_zero {k l t r b : Int} {a' b' : Nat} (h : extE k l t r b a' b' = 0) : (k = 1 ∨ k = 2 ∨ k = 3) ∧ ∃ L T R B : Nat, l = L ∧ t = T ∧ r = R ∧ b = B ∧ L ≤ 1024 ∧ T ≤ 1024 ∧ R ≤ 1024 ∧ B ≤ 1024 ∧ Size (L + a' + R) (T + b' + B) := by
  unfold extE at h
  by_cases h1 : k = 1 ∨ k = 2 ∨ k = 3
  · rw [if_pos h1] at h
    refine ⟨h1, ?_⟩
    by_cases h2 : l < 0 ∨ t < 0 ∨ r < 0 ∨ b < 0
    · rw [if_pos h2] at h; exact absurd h (by decide)
    · rw [if_neg h2] at h
      by_cases h3 : 1024 < l ∨ 1024 < t ∨ 1024 < r ∨ 1024 < b
      · rw [if_pos h3] at h; exact absurd h (by decide)
      · rw [if_neg h3] at h
        by_cases h4 : sizeB (l + a' + r) (t + b' + b) = true
        · obtain ⟨p, q, e1, e2, hs⟩ := (sizeB_true.1 h4).nat
          refine ⟨l.toNat, t.toNat, r.toNat, b.toNat, by omega, by omega, by omega, by omega, by omega, by omega, by omega, by omega, ?_⟩
          have f1 : l.toNat + a' + r.toNat = p := by omega
          have f2 : t.toNat + b' + b.toNat = q := by omega
          rw [f1, f2]
          exact hs
        · rw [if_neg h4] at h; exact absurd h (by decide)
  · rw [if_neg h1] at h; exact absurd h (by decide)
end Go.Proofs.YtieojgblamkgoaaGreatDoor
/- Planes held against one another: the document's Equal. -/
namespace Go.Proofs.YtieojgblamkgoaaGreatDoor
open Go.RowKit
set_option linter.unusedVariables false
set_option linter.unusedSimpArgs false

/-- Are two planes the same? -/
def eqB (W H : Int) (S : List Nat) (W' H' : Int) (S' : List Nat) : Bool := decide (W = W') && (decide (H = H') && decide (S = S'))
theorem eqB_true {W H : Int} {S : List Nat} {W' H' : Int} {S' : List Nat} : eqB W H S W' H' S' = true ↔ W = W' ∧ H = H' ∧ S = S' := by
  unfold eqB; simp
theorem eqB_false {W H : Int} {S : List Nat} {W' H' : Int} {S' : List Nat} (h : ¬ (W = W' ∧ H = H' ∧ S = S')) : eqB W H S W' H' S' = false := by
  cases g : eqB W H S W' H' S'
  · rfl
  · exact absurd (eqB_true.1 g) h
theorem same_list {S S' : List Nat} (hl : S.length = S'.length) (h : ∀ i, i < S.length → S.getD i 0 = S'.getD i 0) : S = S' := list_ext hl h
end Go.Proofs.YtieojgblamkgoaaGreatDoor
/- The chapter's examples. -/
namespace Go.Proofs.YtieojgblamkgoaaGreatDoor
open Go.RowKit
/-- A plane put into a variable. -/
def boxed (w : World) (W H : Int) (v : Value) : World := w.alloc (.cells #[.int .i64 W, .int .i64 H, v] 26)
theorem boxed_q (w : World) (W H : Int) (v : Value) : Q w (boxed w W H v) := (Q.refl w).cells _ _
theorem boxed_0 (w : World) (W H : Int) (v : Value) : (boxed w W H v).cell? ⟨w.heap.size, 0, none⟩ = some (.int .i64 W) := by unfold boxed; simp [go_sem]
theorem boxed_1 (w : World) (W H : Int) (v : Value) : (boxed w W H v).cell? ⟨w.heap.size, 1, none⟩ = some (.int .i64 H) := by unfold boxed; simp [go_sem]
theorem boxed_2 (w : World) (W H : Int) (v : Value) : (boxed w W H v).cell? ⟨w.heap.size, 2, none⟩ = some v := by unfold boxed; simp [go_sem]
theorem row_uis {w : World} {g : Nat} {S : List Nat} (h : ∀ i, i < S.length → w.cell? ⟨g, i, none⟩ = some (.int .u32 (S.getD i 0 : Nat))) : UIs w g 0 S := fun i hi => by rw [Nat.zero_add]; exact h i hi
theorem k_crop (g : Nat) (w : World) (hu : UIs w g 0 [1, 2, 3, 4, 5, 6]) : Calls Tryz.prog 66 #[.agg #[.int .i64 2, .int .i64 3, .slice (some ⟨g, 0, none⟩) 6 6], .agg #[.int .i64 1, .int .i64 0, .int .i64 2, .int .i64 2]] w fun e w' => ∃ g', e = .returned (.tuple #[.agg #[.int .i64 1, .int .i64 2, .slice (some ⟨g', 0, none⟩) 2 2], .int .i64 0]) ∧ Q w w' ∧ UIs w' g' 0 [2, 4] := by
  have h := crop_good (a := 2) (b := 3) ⟨by decide, by decide, by decide, by decide, by decide⟩ (S := [1, 2, 3, 4, 5, 6]) rfl g 0 6 (x0 := 1) (y0 := 0) (c := 1) (d := 2) ⟨by decide, by decide, by decide, by decide⟩ 2 2 (by decide) (by decide) w hu
  refine h.mono ?_
  rintro e w' ⟨g', rfl, ho⟩
  refine ⟨g', rfl, ho.q, ?_⟩
  exact ho.cells
end Go.Proofs.YtieojgblamkgoaaGreatDoor
/- The chapter's examples, all of them. -/
namespace Go.Proofs.YtieojgblamkgoaaGreatDoor
open Go.RowKit
set_option linter.unusedVariables false
set_option linter.unusedSimpArgs false

theorem lit_uis {w : World} (S : List Nat) {C : Array Value} (h : ∀ i, i < S.length → C[i]? = some (.int .u32 (S.getD i 0 : Nat))) : UIs (w.alloc (.cells C 43)) w.heap.size 0 S := fun i hi => by
  have hb : (w.alloc (.cells C 43)).heap[w.heap.size]? = some (.cells C 43 (0, 0)) := heap_alloc_new w _
  rw [Nat.zero_add, cell_of_row _ _ i C 43 (0, 0) hb]
  exact h i hi
end Go.Proofs.YtieojgblamkgoaaGreatDoor
/- Errors as numbers; answers held against the document's. -/
namespace Go.Proofs.YtieojgblamkgoaaGreatDoor
open Go.RowKit
end Go.Proofs.YtieojgblamkgoaaGreatDoor
/- What is said of borders without the document's answer. -/
namespace Go.Proofs.YtieojgblamkgoaaGreatDoor
open Go.RowKit
set_option linter.unusedVariables false
set_option linter.unusedSimpArgs false

theorem borA_ok {k n : Int} (i : Int) (hk : k = 1 ∨ k = 2 ∨ k = 3) (hn : 1 ≤ n ∧ n ≤ 1024) : borA k n i = borV k n i ∧ borE k n = 0 := by
  unfold borA borE
  rw [if_pos hk, if_pos hk, if_pos (sideB_true.2 hn), if_pos (sideB_true.2 hn)]
  exact ⟨rfl, rfl⟩
theorem borV_in {k n i : Int} (hk : k = 1 ∨ k = 2 ∨ k = 3) (h0 : 0 ≤ i) (h1 : i < n) : borV k n i = i := by
  rcases hk with rfl | rfl | rfl
  · show claV n i = i
    unfold claV
    rw [if_neg (by omega), if_pos h1]
  · show mirV n i = i
    unfold mirV
    by_cases h : n = 1
    · rw [if_pos h]; omega
    · rw [if_neg h]
      have e : i % (2 * (n - 1)) = i := Int.emod_eq_of_lt h0 (by omega)
      rw [e, if_pos h1]
  · show i % n = i
    exact Int.emod_eq_of_lt h0 h1
theorem borV_wrap (n i : Int) : borV 3 n (i + n) = borV 3 n i := by
  show (i + n) % n = i % n
  exact Int.add_emod_right _ _
theorem borV_mir (n i : Int) : borV 2 n (i + 2 * (n - 1)) = borV 2 n i := by
  show mirV n _ = mirV n i
  unfold mirV
  rw [Int.add_emod_right]
theorem borV_neg (n i : Int) (hn : 1 ≤ n) : borV 2 n (-i) = borV 2 n i := by
  show mirV n _ = mirV n i
  unfold mirV
  by_cases h : n = 1
  · rw [if_pos h, if_pos h]
  · rw [if_neg h, if_neg h]
    obtain ⟨t, ht⟩ : ∃ t, 2 * (n - 1) = t := ⟨_, rfl⟩
    rw [ht]
    have t0 : 0 < t := by omega
    have a1 := Int.emod_nonneg i (show t ≠ 0 by omega)
    have a2 := Int.emod_lt_of_pos i t0
    have b1 := Int.emod_nonneg (-i) (show t ≠ 0 by omega)
    have b2 := Int.emod_lt_of_pos (-i) t0
    have hs : (i % t + (-i) % t) % t = 0 := by
      rw [← Int.add_emod]
      rw [Int.add_right_neg, Int.zero_emod]
    generalize i % t = m at *
    generalize (-i) % t = m' at *
    have hc : m + m' = 0 ∨ m + m' = t := by
      rcases Int.lt_or_le (m + m') t with g | g
      · left; rw [Int.emod_eq_of_lt (by omega) g] at hs; exact hs
      · right
        have : (m + m') % t = m + m' - t := by
          have e : (m + m' - t) % t = (m + m') % t := Int.sub_emod_right _ _
          rw [← e]
          exact Int.emod_eq_of_lt (by omega) (by omega)
        omega
    split <;> split <;> omega
end Go.Proofs.YtieojgblamkgoaaGreatDoor
/- Planes, whole: what is done with them, as functions of lists. -/
namespace Go.Proofs.YtieojgblamkgoaaGreatDoor
open Go.RowKit
set_option linter.unusedVariables false
set_option linter.unusedSimpArgs false

/-- A plane that may be, lying somewhere. -/
structure Pl (w : World) (g o n cap a b : Nat) (S : List Nat) : Prop where
  size : Size a b
  len : S.length = a * b
  eq : n = S.length
  room : n ≤ cap
  us : UIs w g o S
theorem Pl.next {w w' : World} {g o n cap a b : Nat} {S : List Nat} (h : Pl w g o n cap a b S) (q : Q w w') : Pl w' g o n cap a b S := ⟨h.size, h.len, h.eq, h.room, h.us.next q⟩
theorem Pl.usl {w : World} {g o n cap a b : Nat} {S : List Nat} (h : Pl w g o n cap a b S) : USl w (.slice (some ⟨g, o, none⟩) n cap) S := by
  have e := h.eq
  subst e
  exact h.us.usl h.room
theorem Pl.bd {w : World} {g o n cap a b : Nat} {S : List Nat} (h : Pl w g o n cap a b S) : S.length ≤ 65536 := by rw [h.len]; exact h.size.ab
/-- A plane that was made. -/
def Mk (w : World) (a b : Nat) (S : List Nat) (e : Ending) (w' : World) : Prop := ∃ g n, e = .returned (.tuple #[.agg #[.int .i64 (a : Int), .int .i64 (b : Int), .slice (some ⟨g, 0, none⟩) n n], .int .i64 0]) ∧ Q w w' ∧ w.heap.size ≤ g ∧ (∀ j, w'.frozen? ⟨g, j, none⟩ = false) ∧ Hid (Pl w' g 0 n n a b S)
theorem Made.mk {w : World} {a b : Nat} {S : List Nat} {e : Ending} {w' : World} (h : Made w a b S e w') (hs : Size a b) (hl : S.length = a * b) : Mk w a b S e w' := by
  obtain ⟨g, rfl, ho⟩ := h
  exact ⟨g, a * b, rfl, ho.q, ho.new, ho.free, ⟨hs, hl, hl.symm, Nat.le_refl _, ho.cells⟩⟩
/-- Flipped across, flipped, exchanged, turned, a piece. -/
def flX (a b : Nat) (S : List Nat) : List Nat := tab a b fun x y => smp S a (a - 1 - x) y
def flY (a b : Nat) (S : List Nat) : List Nat := tab a b fun x y => smp S a x (b - 1 - y)
def trL (a b : Nat) (S : List Nat) : List Nat := tab b a fun x y => smp S a y x
def tuL (q a b : Nat) (S : List Nat) : List Nat := tab (tuA q a b) (tuB q a b) (tuV q S a b)
def crL (a x0 y0 c d : Nat) (S : List Nat) : List Nat := tab c d fun x y => smp S a (x0 + x) (y0 + y)
theorem pl_crop {w : World} {g o n cap a b : Nat} {S : List Nat} (h : Pl w g o n cap a b S) {x0 y0 c d : Nat} (hr : Rct a b x0 y0 c d) (XX YY : Int) (hXX : XX = (x0 + c : Nat)) (hYY : YY = (y0 + d : Nat)) :
    Calls Tryz.prog 66 #[.agg #[.int .i64 (a : Int), .int .i64 (b : Int), .slice (some ⟨g, o, none⟩) n cap], .agg #[.int .i64 (x0 : Int), .int .i64 (y0 : Int), .int .i64 XX, .int .i64 YY]] w (Mk w c d (crL a x0 y0 c d S)) := by
  have e := h.eq
  subst e
  exact (crop_good h.size h.len g o cap hr XX YY hXX hYY w h.us).mono fun e w' hm => hm.mk (hr.size h.size) (tab_length _ _ _)
theorem flX_flX {a b : Nat} {S : List Nat} (h : S.length = a * b) : flX a b (flX a b S) = S := by
  conv => rhs; rw [← tab_self h]
  refine tab_ext fun x y hx hy => ?_
  unfold flX
  rw [smp_tab (by omega) hy]
  congr 1; omega
theorem flY_flY {a b : Nat} {S : List Nat} (h : S.length = a * b) : flY a b (flY a b S) = S := by
  conv => rhs; rw [← tab_self h]
  refine tab_ext fun x y hx hy => ?_
  unfold flY
  rw [smp_tab hx (by omega)]
  congr 1; omega
theorem trL_trL {a b : Nat} {S : List Nat} (h : S.length = a * b) : trL b a (trL a b S) = S := by
  conv => rhs; rw [← tab_self h]
  refine tab_ext fun x y hx hy => ?_
  unfold trL
  rw [smp_tab hy hx]
theorem tuL_one {a b : Nat} {S : List Nat} : tuL 1 a b S = flX b a (trL a b S) := by
  refine tab_ext fun x y hx hy => ?_
  have hx : x < b := hx
  have hy : y < a := hy
  unfold trL
  rw [smp_tab (by omega) hy]
  rfl
theorem tuL_zero {a b : Nat} {S : List Nat} (h : S.length = a * b) : tuL 0 a b S = S := by
  conv => rhs; rw [← tab_self h]
  exact tab_ext fun x y hx hy => rfl
theorem tuL_two {a b : Nat} {S : List Nat} : flY a b (flX a b S) = tuL 2 a b S := by
  refine tab_ext fun x y hx hy => ?_
  unfold flX
  rw [smp_tab hx (by omega)]
  rfl
theorem tuA_add {q1 q2 q3 a b : Nat} (h1 : q1 < 4) (h2 : q2 < 4) (h3 : (q1 + q2) % 4 = q3) : tuA q2 (tuA q1 a b) (tuB q1 a b) = tuA q3 a b ∧ tuB q2 (tuA q1 a b) (tuB q1 a b) = tuB q3 a b := by
  obtain rfl | rfl | rfl | rfl : q1 = 0 ∨ q1 = 1 ∨ q1 = 2 ∨ q1 = 3 := by omega
  all_goals (obtain rfl | rfl | rfl | rfl : q2 = 0 ∨ q2 = 1 ∨ q2 = 2 ∨ q2 = 3 := by omega)
  all_goals (subst h3; exact ⟨rfl, rfl⟩)
theorem tuL_add {q1 q2 q3 a b : Nat} {S : List Nat} (h1 : q1 < 4) (h2 : q2 < 4) (h3 : (q1 + q2) % 4 = q3) (hS : Size a b) : tuL q2 (tuA q1 a b) (tuB q1 a b) (tuL q1 a b S) = tuL q3 a b S := by
  have ha := hS.a1
  have hb := hS.b1
  obtain rfl | rfl | rfl | rfl : q1 = 0 ∨ q1 = 1 ∨ q1 = 2 ∨ q1 = 3 := by omega
  all_goals (obtain rfl | rfl | rfl | rfl : q2 = 0 ∨ q2 = 1 ∨ q2 = 2 ∨ q2 = 3 := by omega)
  all_goals subst h3
  all_goals refine tab_ext fun x y hx hy => ?_
  all_goals (simp only [tuA, tuB, tuV, tuL] at hx hy ⊢; simp at hx hy ⊢)
  all_goals rw [smp_tab (by omega) (by omega)]
  all_goals first | rfl | (simp only [tuV]; simp; first | done | (congr 1 <;> omega))
end Go.Proofs.YtieojgblamkgoaaGreatDoor
/- Pieces of planes, pasted, cropped, extended. -/
namespace Go.Proofs.YtieojgblamkgoaaGreatDoor
open Go.RowKit
set_option linter.unusedVariables false
set_option linter.unusedSimpArgs false

theorem paste_back {a b x0 y0 c d : Nat} {S : List Nat} (hl : S.length = a * b) (hr : Rct a b x0 y0 c d) : tab a b (pasV S a (crL a x0 y0 c d S) c d x0 y0) = S := by
  conv => rhs; rw [← tab_self hl]
  refine tab_ext fun x y hx hy => ?_
  unfold pasV
  by_cases h : (lieB (x : Int) (x0 : Int) (c : Int) && lieB (y : Int) (y0 : Int) (d : Int)) = true
  · rw [if_pos h]
    rw [Bool.and_eq_true] at h
    have h1 := lieB_true.1 h.1
    have h2 := lieB_true.1 h.2
    unfold crL
    rw [smp_tab (by omega) (by omega)]
    congr 1 <;> omega
  · rw [if_neg h]
theorem crop_crop {a b x0 y0 c d x1 y1 c' d' : Nat} {S : List Nat} (hr : Rct a b x0 y0 c d) (hr' : Rct c d x1 y1 c' d') : crL a (x0 + x1) (y0 + y1) c' d' S = crL c x1 y1 c' d' (crL a x0 y0 c d S) := by
  obtain ⟨h1, h2, h3, h4⟩ := hr'
  refine tab_ext fun x y hx hy => ?_
  unfold crL
  rw [smp_tab (by omega) (by omega)]
  congr 1 <;> omega
theorem rct_rct {a b x0 y0 c d x1 y1 c' d' : Nat} (hr : Rct a b x0 y0 c d) (hr' : Rct c d x1 y1 c' d') : Rct a b (x0 + x1) (y0 + y1) c' d' := by
  obtain ⟨h1, h2, h3, h4⟩ := hr'
  obtain ⟨g1, g2, g3, g4⟩ := hr
  exact ⟨h1, by omega, h3, by omega⟩
theorem crop_ext {a b l t r s : Nat} {k : Int} {S : List Nat} (hl : S.length = a * b) (hk : k = 1 ∨ k = 2 ∨ k = 3) : crL (l + a + r) l t a b (tab (l + a + r) (t + b + s) (extV S a b k l t)) = S := by
  conv => rhs; rw [← tab_self hl]
  refine tab_ext fun x y hx hy => ?_
  rw [smp_tab (by omega) (by omega)]
  unfold extV
  rw [show (((l + x : Nat) : Int) - (l : Int)) = (x : Int) by omega, show (((t + y : Nat) : Int) - (t : Int)) = (y : Int) by omega, borV_in hk (by omega) (by omega), borV_in hk (by omega) (by omega)]
  rfl
theorem crop_fail {w : World} {W H : Int} {av : Option Addr} {n cap : Nat} (hn : n ≤ 9223372036854775807) (x0 y0 x1 y1 : Int) (h : chk W H n ≠ 0 ∨ (∃ (S : List Nat) (a b g o : Nat), n = S.length ∧ W = a ∧ H = b ∧ av = some ⟨g, o, none⟩ ∧ Size a b ∧ S.length = a * b ∧ wiB x0 y0 x1 y1 a b = false)) :
    ∃ r : Int, r ≠ 0 ∧ Calls Tryz.prog 66 #[.agg #[.int .i64 W, .int .i64 H, .slice av n cap], .agg #[.int .i64 x0, .int .i64 y0, .int .i64 x1, .int .i64 y1]] w fun e w' => e = .returned (.tuple #[.agg #[.int .i64 0, .int .i64 0, .slice none 0 0], .int .i64 r]) ∧ Q w w' := by
  rcases h with h | ⟨S, a, b, g, o, rfl, rfl, rfl, rfl, hs, hl, h⟩
  · exact ⟨chk W H n, h, crop_bad W H av n cap hn rfl h x0 y0 x1 y1 w⟩
  · exact ⟨52, by decide, crop_out hs hl g o cap x0 y0 x1 y1 h w⟩
end Go.Proofs.YtieojgblamkgoaaGreatDoor
/- stat: Add. -/
namespace Go.Proofs.YtieojgblamkgoaaGreatDoor
open Go.RowKit
set_option linter.unusedVariables false
set_option linter.unusedSimpArgs false

theorem mem_of_getD {L : List Nat} (h : ∀ i, L.getD i 0 < 4294967296) : ∀ s ∈ L, s < 4294967296 := by
  intro s hs
  obtain ⟨i, hi, rfl⟩ := List.getElem_of_mem hs
  have := h i
  rw [List.getD_eq_getElem?_getD, List.getElem?_eq_getElem hi] at this
  exact this
theorem usl_fb {w w' : World} {A : Nat} {u : Value} {L : List Nat} (h : USl w u L) (f : Fb A w w') (hA : ∀ g o c, u = .slice (some ⟨g, o, none⟩) L.length c → g ≠ A) : USl w' u L := by
  rcases h with ⟨g, o, c, e, hc, hI⟩ | hx
  · exact Or.inl ⟨g, o, c, e, hc, fun i hi => f.cell (hI i hi) (hA g o c e)⟩
  · exact Or.inr hx
theorem usl_fr {w w' : World} {R : Nat → Prop} {u : Value} {L : List Nat} (h : USl w u L) (f : Fr w w' R) (hA : ∀ g o c, u = .slice (some ⟨g, o, none⟩) L.length c → R g) : USl w' u L := by
  rcases h with ⟨g, o, c, e, hc, hI⟩ | hx
  · exact Or.inl ⟨g, o, c, e, hc, fun i hi => f.cell (hI i hi) (hA g o c e)⟩
  · exact Or.inr hx
set_option maxHeartbeats 4000000 in
set_option maxRecDepth 100000 in
theorem sadd_good (P A H b kc : Nat) (L : List Nat) (w : World) (h : StAt w P A H b kc L) {g o n cap pa pb : Nat} {S : List Nat} (hp : Pl w g o n cap pa pb S) {x0 y0 c d : Nat} (hr : Rct pa pb x0 y0 c d) (XX YY : Int) (hXX : XX = (x0 + c : Nat)) (hYY : YY = (y0 + d : Nat))
    (hCb : ∀ i, (crL pa x0 y0 c d S).getD i 0 < 4294967296) (hL : L.length ≤ 1000000) :
    Calls Tryz.prog 35 #[.pointer (some ⟨P, 0, none⟩), .agg #[.int .i64 (pa : Int), .int .i64 (pb : Int), .slice (some ⟨g, o, none⟩) n cap], .agg #[.int .i64 (x0 : Int), .int .i64 (y0 : Int), .int .i64 XX, .int .i64 YY]] w fun e w' => e = .returned (.int .i64 0) ∧ StAt w' P A H b kc (L ++ crL pa x0 y0 c d S) ∧ Fr w w' (stB P A H) := by
  obtain ⟨w1, hw1⟩ : ∃ w1, (w.alloc (.cells #[.int .i64 (pa : Int), .int .i64 (pb : Int), .slice (some ⟨g, o, none⟩) n cap] 26)).alloc (.cells #[.int .i64 (x0 : Int), .int .i64 (y0 : Int), .int .i64 XX, .int .i64 YY] 28) = w1 := ⟨_, rfl⟩
  have q1 : Q w w1 := by rw [← hw1]; exact ((Q.refl w).cells _ _).cells _ _
  have z00 : w1.cell? ⟨w.heap.size, 0, none⟩ = some (.int .i64 (pa : Int)) := by rw [← hw1]; simp [go_sem]
  have z01 : w1.cell? ⟨w.heap.size, 1, none⟩ = some (.int .i64 (pb : Int)) := by rw [← hw1]; simp [go_sem]
  have z02 : w1.cell? ⟨w.heap.size, 2, none⟩ = some (.slice (some ⟨g, o, none⟩) n cap) := by rw [← hw1]; simp [go_sem]
  have z10 : w1.cell? ⟨w.heap.size + 1, 0, none⟩ = some (.int .i64 (x0 : Int)) := by rw [← hw1]; simp [go_sem]
  have z11 : w1.cell? ⟨w.heap.size + 1, 1, none⟩ = some (.int .i64 (y0 : Int)) := by rw [← hw1]; simp [go_sem]
  have z12 : w1.cell? ⟨w.heap.size + 1, 2, none⟩ = some (.int .i64 XX) := by rw [← hw1]; simp [go_sem]
  have z13 : w1.cell? ⟨w.heap.size + 1, 3, none⟩ = some (.int .i64 YY) := by rw [← hw1]; simp [go_sem]
  have K := pl_crop (hp.next q1) hr XX YY hXX hYY
  have HQ1 : Hid (Q w w1) := q1
  have HS : Hid (StAt w P A H b kc L) := h
  have HC0 : Hid (1 ≤ b ∧ b ≤ 12 ∧ 2 ^ b ≤ kc ∧ P ≠ A ∧ P ≠ H ∧ A ≠ H) := ⟨h.b1, h.b2, h.cap, h.pa, h.ph, h.ah⟩
  have hCl : (crL pa x0 y0 c d S).length ≤ 65536 := by have := (hr.size hp.size).ab; unfold crL; rw [tab_length]; omega
  generalize crL pa x0 y0 c d S = C at *
  clear h hp hr hXX hYY
  go_enter Tryz.func35, Tryz.ntmps35
  go_wp2_with fail
  refine K.mono ?_
  rintro e w2 ⟨g2, n2, rfl, q2, l2, f2, hP2⟩
  clear hw1 z00 z01 z02 z10 z11 z12 z13 K
  have hn2 := hP2.out.eq
  subst hn2
  obtain ⟨w3, hw3⟩ : ∃ w3, w2.alloc (.cells #[.int .i64 (c : Int), .int .i64 (d : Int), .slice (some ⟨g2, 0, none⟩) C.length C.length] 26) = w3 := ⟨_, rfl⟩
  have q3 : Q w2 w3 := by rw [← hw3]; exact (Q.refl w2).cells _ _
  have y2 : w3.cell? ⟨w2.heap.size, 2, none⟩ = some (.slice (some ⟨g2, 0, none⟩) C.length C.length) := by rw [← hw3]; simp [go_sem]
  obtain ⟨B, hB⟩ : ∃ B, w2.heap.size = B := ⟨_, rfl⟩
  rw [hB] at y2
  have hsz : w.heap.size ≤ w1.heap.size := q1.1.size
  have hsz2 : w1.heap.size ≤ w2.heap.size := q2.1.size
  have hBw : w.heap.size ≤ B := by omega
  have hgw : w.heap.size ≤ g2 := by omega
  have hU : USl w3 (.slice (some ⟨g2, 0, none⟩) C.length C.length) C := hP2.out.usl.next q3
  have HQ3 : Hid (Q w w3) := (q1.trans q2).trans q3
  have hlt := HS.out.lt
  have hneB : B ≠ P ∧ B ≠ A ∧ B ≠ H ∧ g2 ≠ P ∧ g2 ≠ A ∧ g2 ≠ H := by omega
  clear q1 q2 q3 hP2 f2 l2 HQ1 hsz hsz2
  go_wp2_with fail
  clear hw3 hB
  refine (wnan_any _ C _ hU hCb hCl).mono ?_
  rintro e w4 ⟨u, rfl, hu, hug, q4⟩
  obtain ⟨ua, uc, rfl⟩ := hu.form
  have hsz4 : w.heap.size ≤ w3.heap.size := HQ3.out.1.size
  have HUG : Hid (∀ g o c, Value.slice ua (numL C).length uc = .slice (some ⟨g, o, none⟩) (numL C).length c → g ≠ P ∧ g ≠ A ∧ g ≠ H) := fun g o c e => by have := hug g o c e; omega
  clear hug hsz4
  have y2 := q4.cell y2
  have hU4 := hU.next q4
  have HQ4 : Hid (Q w w4) := HQ3.out.trans q4
  have HS4 : Hid (StAt w4 P A H b kc L) := HS.out.next HQ4.out
  clear hU q4 HQ3 HS
  have p0 := HS4.out.p0
  have dp := qw_cell p0
  have dy := qw_cell y2
  have n0 := qw_some w4
  go_wp2_with fail
  refine wp_lastR 6 rfl _ rfl (by kernel_rfl) (by kernel_rfl) (by kernel_rfl) ?_
  simp only [List.take_succ_cons, List.take_zero]
  repeat (first | go_big_quiet_step (fail) | quiet_step (fail))
  refine wpQuiet_nil ?_
  intro nn K hK
  clear dp dy n0 p0
  have y2 := nn.q.cell y2
  have hU5 := hU4.next nn.q
  have hu5 := hu.next nn.q
  have HQ5 : Hid (Q w nn.x) := HQ4.out.trans nn.q
  have HS5 : Hid (StAt nn.x P A H b kc L) := HS4.out.next nn.q
  clear hU4 hu HQ4 HS4
  obtain ⟨N, hacc⟩ := HS5.out.acc
  generalize nn.x = w5 at *
  go_wp2_with fail
  refine (acc_add _ C L A L.length N _ hacc hU5 (fun g' o' cap' _ e => by injection e with e; injection e with e; injection e with e; omega) hCb (by omega)).mono ?_
  rintro e w6 ⟨rfl, hA6, f6⟩
  have y2 := f6.cell y2 hneB.2.1
  have hU6 : USl w6 (.slice (some ⟨g2, 0, none⟩) C.length C.length) C := usl_fb hU5 f6 (fun g' o' c' e => by injection e with e; injection e with e; injection e with e; omega)
  have HF6 : Hid (Fr w w6 (stB P A H)) := (HQ5.out.fr _).trans ⟨f6.os, f6.tape, f6.output, f6.size, fun x hx hr => f6.block x hx hr.2.1, f6.frz⟩
  have hT6 : VR w6 H (2 ^ b) (fun j => .int .i64 ((clsC b L j : Nat) : Int)) := ⟨fun i hi => f6.cell (HS5.out.tal.cell i hi) (fun e => HS5.out.ah e.symm), fun j => (f6.frz _).trans (HS5.out.tal.free j)⟩
  have p1 := f6.cell HS5.out.p1 HS5.out.pa
  have p2 := f6.cell HS5.out.p2 HS5.out.pa
  have p3 := f6.cell HS5.out.p3 HS5.out.pa
  have p4 := f6.cell HS5.out.p4 HS5.out.pa
  have p5 := f6.cell HS5.out.p5 HS5.out.pa
  have p0 := f6.cell HS5.out.p0 HS5.out.pa
  have HZ6 : Hid (∀ j, w6.frozen? ⟨P, j, none⟩ = false) := fun j => (f6.frz _).trans (HS5.out.fz j)
  have hu6 : USl w6 (.slice ua (numL C).length uc) (numL C) := usl_fb hu5 f6 (fun g' o' c' e => (HUG.out g' o' c' e).2.1)
  clear hU5 hu5 f6 HQ5 hacc HS5
  have dp1 := qw_cell p1
  have dp2 := qw_cell p2
  have dy := qw_cell y2
  have n0 := qw_some w6
  go_wp2_with fail
  refine wp_lastR 6 rfl _ rfl (by kernel_rfl) (by kernel_rfl) (by kernel_rfl) ?_
  simp only [List.take_succ_cons, List.take_zero]
  repeat (first | go_big_quiet_step (fail) | quiet_step (fail))
  refine wpQuiet_nil ?_
  intro n2 K2 hK2
  clear dp1 dp2 dy n0
  have y2 := n2.q.cell y2
  have p0 := n2.q.cell p0
  have p1 := n2.q.cell p1
  have p2 := n2.q.cell p2
  have p3 := n2.q.cell p3
  have p4 := n2.q.cell p4
  have p5 := n2.q.cell p5
  have hU7 := hU6.next n2.q
  have hu7 := hu6.next n2.q
  have hT7 := hT6.next n2.q
  have HA7 : Hid (AccAt n2.x A (L ++ C)) := by
    obtain ⟨N', h'⟩ := hA6
    refine AccAt.next ⟨N', ?_⟩ n2.q
    rw [List.length_append]; exact h'
  have HZ7 : Hid (∀ j, n2.x.frozen? ⟨P, j, none⟩ = false) := fun j => by rw [n2.q.2]; exact HZ6.out j
  have HF7 : Hid (Fr w n2.x (stB P A H)) := HF6.out.trans (n2.q.fr _)
  clear hU6 hu6 hT6 hA6 HZ6 HF6
  generalize n2.x = w7 at *
  have hcl : ∀ j, clsC b L j ≤ 35184372087808 := fun j => by have := clsC_le b L j; omega
  have KT := tadd_any b H kc (clsC b L) _ C w7 HC0.out.1 HC0.out.2.1 hT7 HC0.out.2.2.1 hcl hU7 (fun g' o' c' _ e => by injection e with e; injection e with e; injection e with e; omega) hCb hCl
  unfold talV at KT
  clear hT7 hcl
  go_wp2_with fail
  refine KT.mono ?_
  rintro e w8 ⟨rfl, hT8, f8⟩
  clear KT
  have hPH := HC0.out.2.2.2.2.1
  have y2 := f8.cell y2 hneB.2.2.1
  have p0 := f8.cell p0 hPH
  have p1 := f8.cell p1 hPH
  have p2 := f8.cell p2 hPH
  have p3 := f8.cell p3 hPH
  have p4 := f8.cell p4 hPH
  have p5 := f8.cell p5 hPH
  have hu8 : USl w8 (.slice ua (numL C).length uc) (numL C) := usl_fb hu7 f8 (fun g' o' c' e => (HUG.out g' o' c' e).2.2)
  have HA8 : Hid (AccAt w8 A (L ++ C)) := HA7.out.far f8 HC0.out.2.2.2.2.2
  have HZ8 : Hid (∀ j, w8.frozen? ⟨P, j, none⟩ = false) := fun j => (f8.frz _).trans (HZ7.out j)
  have HF8 : Hid (Fr w w8 (stB P A H)) := HF7.out.trans ⟨f8.os, f8.tape, f8.output, f8.size, fun x hx hr => f8.block x hx hr.2.2, f8.frz⟩
  have HT8 : Hid (VR w8 H (2 ^ b) (fun j => .int .i64 ((clsC b (L ++ C) j : Nat) : Int))) := hT8.congr fun j _ => by rw [clsC_append]
  clear hU7 hu7 HA7 HZ7 HF7 f8 hT8 hPH
  have hNb : ∀ i, (numL C).getD i 0 < 4294967296 := fun i => by
    rcases Nat.lt_or_ge i (numL C).length with k | k
    · rw [List.getD_eq_getElem?_getD, List.getElem?_eq_getElem k]
      exact mem_of_getD hCb _ (numL_mem (List.getElem_mem k)).1
    · rw [List.getD_eq_getElem?_getD, List.getElem?_eq_none k]; decide
  have hNl : (numL C).length ≤ 65536 := Nat.le_trans (numL_len C) hCl
  have HSp : Hid (∀ n : QW w8, Calls Tryz.prog 70 #[.slice ua (numL C).length uc] n.x fun e w' => e = .returned (.agg #[.int .u32 (lowK C : Nat), .int .u32 (topK C : Nat)]) ∧ Q n.x w') := fun n => spanof_any _ (numL C) n.x (hu8.next n.q) hNb hNl
  have HWi : Hid (∀ n : QW w8, Calls Tryz.prog 46 #[.agg #[.int .u32 (lowK L : Nat), .int .u32 (topK L : Nat)], .agg #[.int .u32 (lowK C : Nat), .int .u32 (topK C : Nat)]] n.x fun e w' => e = .returned (.agg #[.int .u32 (lowK (L ++ C) : Nat), .int .u32 (topK (L ++ C) : Nat)]) ∧ Q n.x w') := fun n => by
    have := with_any (lowK L) (topK L) (lowK C) (topK C) n.x
    rw [← lowK_append, ← topK_append] at this
    exact this
  have dp3 := qw_cell p3
  have dp4 := qw_cell p4
  have n0 := qw_some w8
  clear hNb hNl
  go_wp2_with fail
  refine wp_lastR 10 rfl _ rfl (by kernel_rfl) (by kernel_rfl) (by kernel_rfl) ?_
  simp only [List.take_succ_cons, List.take_zero]
  repeat (first | go_big_quiet_step (first | (go_at_call 70; exact calls_qw (HSp.out _)) | (go_at_call 46; exact calls_qw (HWi.out _))) | quiet_step (first | (go_at_call 70; exact calls_qw (HSp.out _)) | (go_at_call 46; exact calls_qw (HWi.out _))))
  refine wpQuiet_nil ?_
  intro n3 K3 hK3
  clear dp3 dp4 n0 HSp HWi
  have y2 := n3.q.cell y2
  have p0 := n3.q.cell p0
  have p1 := n3.q.cell p1
  have p2 := n3.q.cell p2
  have p3 := n3.q.cell p3
  have p4 := n3.q.cell p4
  have p5 := n3.q.cell p5
  have HA9 : Hid (AccAt n3.x A (L ++ C)) := HA8.out.next n3.q
  have HZ9 : ∀ j, n3.x.frozen? ⟨P, j, none⟩ = false := fun j => by rw [n3.q.2]; exact HZ8.out j
  have HF9 : Hid (Fr w n3.x (stB P A H)) := HF8.out.trans (n3.q.fr _)
  have HT9 : Hid (VR n3.x H (2 ^ b) (fun j => .int .i64 ((clsC b (L ++ C) j : Nat) : Int))) := HT8.out.next n3.q
  clear HA8 HZ8 HF8 HT8 hu8
  generalize n3.x = w9 at *
  go_wp2_with fail
  have hnP : ∀ x, stB P A H x → P ≠ x := fun x hx e => hx.1 e.symm
  have hPA := HC0.out.2.2.2.1
  have hPH := HC0.out.2.2.2.2.1
  obtain ⟨y, hy⟩ : ∃ y, (w9.setCell ⟨P, 3, none⟩ (.int .u32 (lowK (L ++ C) : Nat))).setCell ⟨P, 4, none⟩ (.int .u32 (topK (L ++ C) : Nat)) = y := ⟨_, rfl⟩
  have cE : ∀ Bk j v, Bk ≠ P → w9.cell? ⟨Bk, j, none⟩ = some v → y.cell? ⟨Bk, j, none⟩ = some v := fun Bk j v hne hc => by
    rw [← hy, World.cell?_setCell_other _ _ _ _ (fun e => by injection e with e; omega), World.cell?_setCell_other _ _ _ _ (fun e => by injection e with e; omega)]; exact hc
  have cP : ∀ j v, j ≠ 3 → j ≠ 4 → w9.cell? ⟨P, j, none⟩ = some v → y.cell? ⟨P, j, none⟩ = some v := fun j v h3 h4 hc => by
    rw [← hy, set_off (fun e => h4 e.symm), set_off (fun e => h3 e.symm)]; exact hc
  have y2 := cE B 2 _ hneB.1 y2
  have p0' := cP 0 _ (by decide) (by decide) p0
  have p1' := cP 1 _ (by decide) (by decide) p1
  have p2' := cP 2 _ (by decide) (by decide) p2
  have p5' := cP 5 _ (by decide) (by decide) p5
  have p4' : y.cell? ⟨P, 4, none⟩ = some (.int .u32 (topK (L ++ C) : Nat)) := by
    rw [← hy]; exact set_same (u := .int .u32 (topK L : Nat)) (by rw [set_off (by decide)]; exact p4)
  have p3' : y.cell? ⟨P, 3, none⟩ = some (.int .u32 (lowK (L ++ C) : Nat)) := by
    rw [← hy, set_off (by decide)]; exact set_same p3
  have fzy : ∀ a : Addr, y.frozen? a = w9.frozen? a := fun a => by rw [← hy, World.frozen?_setCell, World.frozen?_setCell]
  have HAy : Hid (AccAt y A (L ++ C)) := by
    obtain ⟨N', h'⟩ := HA9
    exact ⟨N', fun j hj => cE A j _ (fun e => hPA e.symm) (h'.n j hj), h'.r, cE A 5 _ (fun e => hPA e.symm) h'.m, cE A 6 _ (fun e => hPA e.symm) h'.c, fun j => (fzy _).trans (h'.z j)⟩
  have HTy : Hid (VR y H (2 ^ b) (fun j => .int .i64 ((clsC b (L ++ C) j : Nat) : Int))) := ⟨fun j hj => cE H j _ (fun e => hPH e.symm) (HT9.out.cell j hj), fun j => (fzy _).trans (HT9.out.free j)⟩
  have HZy : Hid (∀ j, y.frozen? ⟨P, j, none⟩ = false) := fun j => (fzy _).trans (HZ9 j)
  have HFy : Hid (Fr w y (stB P A H)) := by
    show Fr w y (stB P A H)
    rw [← hy]
    exact (HF9.out.set (fun e => e.1 rfl) _).set (fun e => e.1 rfl) _
  rw [hy]
  clear hy cE cP p0 p1 p2 p3 p4 p5 fzy HA9 HT9 HZ9 HF9
  have hnn := num_nan C
  have hnl := clsC_le b L 0
  have hnc : nanC L ≤ L.length := List.countP_le_length
  have e1 : wrap64 ((C.length : Int) - ((numL C).length : Int)) = (nanC C : Int) := by unfold wrap64; omega
  have e2 : wrap64 ((nanC L : Int) + (nanC C : Int)) = ((nanC (L ++ C) : Nat) : Int) := by rw [nanC_append]; unfold wrap64; omega
  have dp5 := qw_cell p5'
  have dy := qw_cell y2
  have n0 := qw_some y
  refine wp_lastR 13 rfl _ rfl (by kernel_rfl) (by kernel_rfl) (by kernel_rfl) ?_
  simp only [List.take_succ_cons, List.take_zero]
  repeat (first | go_big_quiet_step (fail) | quiet_step (fail))
  refine wpQuiet_nil ?_
  intro n4 K4 hK4
  clear dp5 dy n0
  have p0 := n4.q.cell p0'
  have p1 := n4.q.cell p1'
  have p2 := n4.q.cell p2'
  have p3 := n4.q.cell p3'
  have p4 := n4.q.cell p4'
  have p5 := n4.q.cell p5'
  have HAz : Hid (AccAt n4.x A (L ++ C)) := HAy.out.next n4.q
  have HZz : ∀ j, n4.x.frozen? ⟨P, j, none⟩ = false := fun j => by rw [n4.q.2]; exact HZy.out j
  have HFz : Hid (Fr w n4.x (stB P A H)) := HFy.out.trans (n4.q.fr _)
  have HTz : Hid (VR n4.x H (2 ^ b) (fun j => .int .i64 ((clsC b (L ++ C) j : Nat) : Int))) := HTy.out.next n4.q
  clear HAy HZy HFy HTy p0' p1' p2' p3' p4' p5'
  generalize n4.x = z at *
  go_wp2_with fail
  go_ret
  refine ⟨rfl, ?_, HFz.out.set (fun e => e.1 rfl) _⟩
  have cE : ∀ Bk j v u, Bk ≠ P → z.cell? ⟨Bk, j, none⟩ = some v → (z.setCell ⟨P, 5, none⟩ u).cell? ⟨Bk, j, none⟩ = some v := fun Bk j v u hne hc => by
    rw [World.cell?_setCell_other _ _ _ _ (fun e => by injection e with e; omega)]; exact hc
  refine ⟨HC0.out.1, HC0.out.2.1, ?_, ?_, ?_, ?_, ?_, ?_, ?_, ?_, ?_, HC0.out.2.2.1, hPA, hPH, HC0.out.2.2.2.2.2⟩
  · rw [set_off (by decide)]; exact p0
  · rw [set_off (by decide)]; exact p1
  · rw [set_off (by decide)]; exact p2
  · rw [set_off (by decide)]; exact p3
  · rw [set_off (by decide)]; exact p4
  · have e3 : ((nanC L : Int) + ((C.length : Int) - ((numL C).length : Int))) = ((nanC (L ++ C) : Nat) : Int) := by rw [nanC_append]; omega
    rw [e3]; exact set_same p5
  · intro j; rw [World.frozen?_setCell]; exact HZz j
  · obtain ⟨N', h'⟩ := HAz
    exact ⟨N', fun j hj => cE A j _ _ (fun e => hPA e.symm) (h'.n j hj), h'.r, cE A 5 _ _ (fun e => hPA e.symm) h'.m, cE A 6 _ _ (fun e => hPA e.symm) h'.c, fun j => by rw [World.frozen?_setCell]; exact h'.z j⟩
  · exact ⟨fun j hj => cE H j _ _ (fun e => hPH e.symm) (HTz.out.cell j hj), fun j => by rw [World.frozen?_setCell]; exact HTz.out.free j⟩
end Go.Proofs.YtieojgblamkgoaaGreatDoor
/- Windows of a plane and their ranks, plain: P12.4 to P12.7. -/
namespace Go.Proofs.YtieojgblamkgoaaGreatDoor
open Go.RowKit
set_option linter.unusedVariables false

/-- The place of a side that stands for a place. -/
def borN (k n : Nat) (i : Int) : Nat := (borV k n i).toNat
theorem borN_lt {k n : Nat} (i : Int) (hn : 1 ≤ n) : borN k n i < n := by
  have := borV_lt (k := k) (n := n) i (by omega)
  unfold borN; omega
theorem borN_eq {k n : Nat} (i : Int) (hn : 1 ≤ n) : ((borN k n i : Nat) : Int) = borV k n i := by
  have := borV_lt (k := k) (n := n) i (by omega)
  unfold borN; omega
theorem borN_self {k n : Nat} {i : Nat} (h : i < n) : borN k n (i : Int) = i := by
  unfold borN borV
  split
  · unfold claV
    rw [if_neg (by omega), if_pos (by omega)]; omega
  · split
    · unfold mirV
      split
      · omega
      · rw [Int.emod_eq_of_lt (by omega) (by omega), if_pos (by omega)]; omega
    · rw [Int.emod_eq_of_lt (by omega) (by omega)]; omega
/-- The samples of a window, row by row. -/
def winL (S : List Nat) (pa pb bd w h x y : Nat) : List Nat := tab w h fun i j => smp S pa (borN bd pa ((x : Int) - (w / 2 : Nat) + (i : Nat))) (borN bd pb ((y : Int) - (h / 2 : Nat) + (j : Nat)))
theorem winL_len (S : List Nat) (pa pb bd w h x y : Nat) : (winL S pa pb bd w h x y).length = w * h := tab_length _ _ _
theorem mem_tab {W H s : Nat} {G : Nat → Nat → Nat} : s ∈ tab W H G ↔ ∃ x y, x < W ∧ y < H ∧ s = G x y := by
  unfold tab
  rw [List.mem_map]
  constructor
  · rintro ⟨i, hi, rfl⟩
    rw [List.mem_range] at hi
    obtain ⟨_, h1, h2⟩ := row_lt hi
    exact ⟨_, _, h1, h2, rfl⟩
  · rintro ⟨x, y, hx, hy, rfl⟩
    exact ⟨y * W + x, List.mem_range.2 (place_lt hx hy), by rw [place_mod y hx, place_div y hx]⟩
theorem winL_lt {S : List Nat} (hb : ∀ i, S.getD i 0 < 4294967296) (pa pb bd w h x y : Nat) : ∀ s ∈ winL S pa pb bd w h x y, s < 4294967296 := by
  intro s hs
  obtain ⟨i, j, _, _, rfl⟩ := mem_tab.1 hs
  exact hb _
/-- What Plane tells at a place; what it tells in all. -/
def rnkV (S : List Nat) (pa pb bd w h k x y : Nat) : Nat := rkV (winL S pa pb bd w h x y) k
def rnkL (S : List Nat) (pa pb bd w h k : Nat) : List Nat := tab pa pb (rnkV S pa pb bd w h k)
theorem rnkV_lt {S : List Nat} (hb : ∀ i, S.getD i 0 < 4294967296) {pa pb bd w h k x y : Nat} (hk : k < w * h) : rnkV S pa pb bd w h k x y < 4294967296 :=
  rk_lt (by rw [winL_len]; exact hk) (winL_lt hb _ _ _ _ _ _ _)
theorem rnkL_len (S : List Nat) (pa pb bd w h k : Nat) : (rnkL S pa pb bd w h k).length = pa * pb := tab_length _ _ _
theorem rnkL_lt {S : List Nat} (hb : ∀ i, S.getD i 0 < 4294967296) {pa pb bd w h k : Nat} (hk : k < w * h) (i : Nat) : (rnkL S pa pb bd w h k).getD i 0 < 4294967296 :=
  tab_lt (by omega) (fun _ _ => rnkV_lt hb hk) i
theorem smp_in {S : List Nat} {pa pb x y : Nat} (hl : S.length = pa * pb) (hx : x < pa) (hy : y < pb) : y * pa + x < S.length := by rw [hl]; exact place_lt hx hy
theorem smp_map {S : List Nat} {pa pb x y : Nat} {f : Nat → Nat} (hl : S.length = pa * pb) (hx : x < pa) (hy : y < pb) : smp (S.map f) pa x y = f (smp S pa x y) := by
  unfold smp
  rw [List.getD_eq_getElem?_getD, List.getElem?_map, List.getD_eq_getElem?_getD, List.getElem?_eq_getElem (smp_in hl hx hy)]; rfl
theorem winL_map {S : List Nat} {pa pb bd w h x y : Nat} {f : Nat → Nat} (ha : 1 ≤ pa) (hb : 1 ≤ pb) (hl : S.length = pa * pb) : winL (S.map f) pa pb bd w h x y = (winL S pa pb bd w h x y).map f := by
  unfold winL
  unfold tab
  rw [List.map_map]
  apply List.map_congr_left
  intro i _
  exact smp_map hl (borN_lt _ ha) (borN_lt _ hb)
/-- P12.6. -/
theorem rnk_map {S : List Nat} {pa pb bd w h k : Nat} {f : Nat → Nat} (ha : 1 ≤ pa) (hb : 1 ≤ pb) (hl : S.length = pa * pb) (hS : ∀ i, S.getD i 0 < 4294967296) (hf : ∀ s, s < 4294967296 → f s < 4294967296) (hr : ∀ a b, a < 4294967296 → b < 4294967296 → keyN a ≤ keyN b → keyN (f a) ≤ keyN (f b)) (hk : k < w * h) (x y : Nat) : rnkV (S.map f) pa pb bd w h k x y = f (rnkV S pa pb bd w h k x y) := by
  unfold rnkV
  rw [winL_map ha hb hl]
  exact rk_map (winL_lt hS _ _ _ _ _ _ _) hf hr (by rw [winL_len]; exact hk)
theorem rnk_turn {S : List Nat} {pa pb bd w h k : Nat} (ha : 1 ≤ pa) (hb : 1 ≤ pb) (hl : S.length = pa * pb) (hS : ∀ i, S.getD i 0 < 4294967296) (hk : k < w * h) (x y : Nat) : rnkV (S.map turnN) pa pb bd w h k x y = turnN (rnkV S pa pb bd w h (w * h - 1 - k) x y) := by
  unfold rnkV
  rw [winL_map ha hb hl]
  have := rk_turn (k := k) (winL_lt hS pa pb bd w h x y) (by rw [winL_len]; exact hk)
  rw [winL_len] at this
  exact this
/-- P12.5. -/
theorem rnk_mono {S T : List Nat} {pa pb bd w h k : Nat} (ha : 1 ≤ pa) (hb : 1 ≤ pb) (hl : S.length = pa * pb) (h1 : ∀ i, i < S.length → keyN (S.getD i 0) ≤ keyN (T.getD i 0)) (hk : k < w * h) (x y : Nat) : keyN (rnkV S pa pb bd w h k x y) ≤ keyN (rnkV T pa pb bd w h k x y) := by
  unfold rnkV
  refine rk_mono (by rw [winL_len, winL_len]) (fun i hi => ?_) (by rw [winL_len]; exact hk)
  rw [winL_len] at hi
  unfold winL
  rw [tab_get hi, tab_get hi]
  exact h1 _ (smp_in hl (borN_lt _ ha) (borN_lt _ hb))
/-- The place itself lies in its window. -/
theorem win_self {S : List Nat} {pa pb bd w h x y : Nat} (hx : x < pa) (hy : y < pb) (hw : 1 ≤ w) (hh : 1 ≤ h) : smp S pa x y ∈ winL S pa pb bd w h x y := by
  refine mem_tab.2 ⟨w / 2, h / 2, by omega, by omega, ?_⟩
  have e1 : ((x : Int) - (w / 2 : Nat) + (w / 2 : Nat)) = (x : Int) := by omega
  have e2 : ((y : Int) - (h / 2 : Nat) + (h / 2 : Nat)) = (y : Int) := by omega
  rw [e1, e2, borN_self hx, borN_self hy]
/-- P12.7. -/
theorem rnk_least {S : List Nat} {pa pb bd w h x y t : Nat} (hw : 1 ≤ w) (hh : 1 ≤ h) : keyN (rnkV S pa pb bd w h 0 x y) ≤ t ↔ ∃ i j, i < w ∧ j < h ∧ keyN (smp S pa (borN bd pa ((x : Int) - (w / 2 : Nat) + (i : Nat))) (borN bd pb ((y : Int) - (h / 2 : Nat) + (j : Nat)))) ≤ t := by
  unfold rnkV
  rw [rk_least (by rw [winL_len]; exact Nat.mul_pos hw hh)]
  constructor
  · rintro ⟨s, hs, ht⟩
    obtain ⟨i, j, h1, h2, rfl⟩ := mem_tab.1 hs
    exact ⟨i, j, h1, h2, ht⟩
  · rintro ⟨i, j, h1, h2, ht⟩
    exact ⟨_, mem_tab.2 ⟨i, j, h1, h2, rfl⟩, ht⟩
theorem rnk_most {S : List Nat} {pa pb bd w h x y t : Nat} (hw : 1 ≤ w) (hh : 1 ≤ h) : keyN (rnkV S pa pb bd w h (w * h - 1) x y) ≤ t ↔ ∀ i j, i < w → j < h → keyN (smp S pa (borN bd pa ((x : Int) - (w / 2 : Nat) + (i : Nat))) (borN bd pb ((y : Int) - (h / 2 : Nat) + (j : Nat)))) ≤ t := by
  unfold rnkV
  have := rk_most (L := winL S pa pb bd w h x y) (t := t) (by rw [winL_len]; exact Nat.mul_pos hw hh)
  rw [winL_len] at this
  rw [this]
  constructor
  · intro g i j h1 h2
    exact g _ (mem_tab.2 ⟨i, j, h1, h2, rfl⟩)
  · intro g s hs
    obtain ⟨i, j, h1, h2, rfl⟩ := mem_tab.1 hs
    exact g i j h1 h2
theorem sides_least {S : List Nat} {pa pb bd w h : Nat} (hS : ∀ i, S.getD i 0 < 4294967296) (hw : 1 ≤ w) (hh : 1 ≤ h) (ha : 1 ≤ pa) (hb : 1 ≤ pb) : rnkL (rnkL S pa pb bd w 1 0) pa pb bd 1 h 0 = rnkL S pa pb bd w h 0 := by
  unfold rnkL
  apply tab_ext
  intro x y hx hy
  refine key_ext (rnkV_lt (rnkL_lt hS (by rw [Nat.mul_one]; omega)) (by rw [Nat.one_mul]; omega)) (rnkV_lt hS (Nat.mul_pos hw hh)) fun t => ?_
  rw [rnk_least (Nat.le_refl 1) hh, rnk_least hw hh]
  have e1 : ((x : Int) - (1 / 2 : Nat) + ((0 : Nat) : Int)) = (x : Int) := by omega
  constructor
  · rintro ⟨i, j, h1, h2, h3⟩
    obtain rfl : i = 0 := by omega
    rw [e1, borN_self hx, smp_tab hx (borN_lt _ hb), rnk_least hw (Nat.le_refl 1)] at h3
    obtain ⟨i, l, h4, h5, h6⟩ := h3
    obtain rfl : l = 0 := by omega
    refine ⟨i, j, h4, h2, ?_⟩
    have e2 : (((borN bd pb ((y : Int) - (h / 2 : Nat) + (j : Nat)) : Nat) : Int) - (1 / 2 : Nat) + ((0 : Nat) : Int)) = ((borN bd pb ((y : Int) - (h / 2 : Nat) + (j : Nat)) : Nat) : Int) := by omega
    rw [e2, borN_self (borN_lt _ hb)] at h6
    exact h6
  · rintro ⟨i, j, h1, h2, h3⟩
    refine ⟨0, j, by omega, h2, ?_⟩
    rw [e1, borN_self hx, smp_tab hx (borN_lt _ hb), rnk_least hw (Nat.le_refl 1)]
    refine ⟨i, 0, h1, by omega, ?_⟩
    have e2 : (((borN bd pb ((y : Int) - (h / 2 : Nat) + (j : Nat)) : Nat) : Int) - (1 / 2 : Nat) + ((0 : Nat) : Int)) = ((borN bd pb ((y : Int) - (h / 2 : Nat) + (j : Nat)) : Nat) : Int) := by omega
    rw [e2, borN_self (borN_lt _ hb)]
    exact h3
theorem sides_most {S : List Nat} {pa pb bd w h : Nat} (hS : ∀ i, S.getD i 0 < 4294967296) (hw : 1 ≤ w) (hh : 1 ≤ h) (ha : 1 ≤ pa) (hb : 1 ≤ pb) : rnkL (rnkL S pa pb bd w 1 (w * 1 - 1)) pa pb bd 1 h (1 * h - 1) = rnkL S pa pb bd w h (w * h - 1) := by
  have hwh := Nat.mul_pos hw hh
  unfold rnkL
  apply tab_ext
  intro x y hx hy
  refine key_ext (rnkV_lt (rnkL_lt hS (by rw [Nat.mul_one]; omega)) (by rw [Nat.one_mul]; omega)) (rnkV_lt hS (by omega)) fun t => ?_
  rw [rnk_most (Nat.le_refl 1) hh, rnk_most hw hh]
  have e1 : ((x : Int) - (1 / 2 : Nat) + ((0 : Nat) : Int)) = (x : Int) := by omega
  have e2 : ∀ j : Nat, (((borN bd pb ((y : Int) - (h / 2 : Nat) + (j : Nat)) : Nat) : Int) - (1 / 2 : Nat) + ((0 : Nat) : Int)) = ((borN bd pb ((y : Int) - (h / 2 : Nat) + (j : Nat)) : Nat) : Int) := fun j => by omega
  constructor
  · intro g i j h1 h2
    have h3 := g 0 j (by omega) h2
    rw [e1, borN_self hx, smp_tab hx (borN_lt _ hb), rnk_most hw (Nat.le_refl 1)] at h3
    have h6 := h3 i 0 h1 (by omega)
    rw [e2, borN_self (borN_lt _ hb)] at h6
    exact h6
  · intro g i j h1 h2
    obtain rfl : i = 0 := by omega
    rw [e1, borN_self hx, smp_tab hx (borN_lt _ hb), rnk_most hw (Nat.le_refl 1)]
    intro i l h4 h5
    obtain rfl : l = 0 := by omega
    rw [e2, borN_self (borN_lt _ hb)]
    exact g i j h4 h2
/-- A window of one place. -/
theorem rnk_one {S : List Nat} {pa pb bd : Nat} (hl : S.length = pa * pb) (hS : ∀ i, S.getD i 0 < 4294967296) : rnkL S pa pb bd 1 1 0 = S := by
  rw [← tab_self hl]
  unfold rnkL
  apply tab_ext
  intro x y hx hy
  rw [tab_self hl]
  have hm : rkV (winL S pa pb bd 1 1 x y) 0 ∈ winL S pa pb bd 1 1 x y := rk_mem (by rw [winL_len]; omega)
  obtain ⟨i, j, h1, h2, h3⟩ := mem_tab.1 hm
  obtain rfl : i = 0 := by omega
  obtain rfl : j = 0 := by omega
  have e1 : ((x : Int) - (1 / 2 : Nat) + ((0 : Nat) : Int)) = (x : Int) := by omega
  have e2 : ((y : Int) - (1 / 2 : Nat) + ((0 : Nat) : Int)) = (y : Int) := by omega
  rw [e1, e2, borN_self hx, borN_self hy] at h3
  exact h3
end Go.Proofs.YtieojgblamkgoaaGreatDoor
/- rank: what is refused; rectangles. -/
namespace Go.Proofs.YtieojgblamkgoaaGreatDoor
open Go.RowKit
set_option linter.unusedVariables false
set_option linter.unusedSimpArgs false

/-- A side of a window. -/
def rsdB (n : Int) : Bool := decide (1 ≤ n) && decide (n ≤ 15)
theorem rsdB_true {n : Int} : rsdB n = true ↔ 1 ≤ n ∧ n ≤ 15 := by unfold rsdB; simp
/-- How many places a window has. -/
def cntV (w h : Int) : Int := if rsdB w = true then (if rsdB h = true then w * h else 0) else 0
theorem win_area {a b : Int} (ha : 1 ≤ a ∧ a ≤ 15) (hb : 1 ≤ b ∧ b ≤ 15) : 1 ≤ a * b ∧ a * b ≤ 225 := by
  have h1 : 1 * 1 ≤ a * b := Int.mul_le_mul ha.1 hb.1 (by omega) (by omega)
  have h2 : a * b ≤ 15 * 15 := Int.mul_le_mul ha.2 hb.2 (by omega) (by omega)
  omega
theorem cntV_bd (w h : Int) : 0 ≤ cntV w h ∧ cntV w h ≤ 225 := by
  unfold cntV
  split
  · rename_i h1
    split
    · rename_i h2
      have := win_area (rsdB_true.1 h1) (rsdB_true.1 h2)
      omega
    · omega
  · omega
theorem cntV_pos {w h : Int} (g : cntV w h ≠ 0) : ∃ a b : Nat, w = (a : Int) ∧ h = (b : Int) ∧ 1 ≤ a ∧ a ≤ 15 ∧ 1 ≤ b ∧ b ≤ 15 ∧ cntV w h = ((a * b : Nat) : Int) := by
  unfold cntV at g ⊢
  split at g
  · rename_i h1
    split at g
    · rename_i h2
      have h3 := rsdB_true.1 h1
      have h4 := rsdB_true.1 h2
      rw [if_pos h1, if_pos h2]
      exact ⟨w.toNat, h.toNat, by omega, by omega, by omega, by omega, by omega, by omega, by rw [Int.natCast_mul]; congr 1 <;> omega⟩
    · exact absurd rfl g
  · exact absurd rfl g
theorem cntV_of {a b : Nat} (h1 : 1 ≤ a) (h2 : a ≤ 15) (h3 : 1 ≤ b) (h4 : b ≤ 15) : cntV a b = ((a * b : Nat) : Int) := by
  unfold cntV
  rw [if_pos (rsdB_true.2 ⟨by omega, by omega⟩), if_pos (rsdB_true.2 ⟨by omega, by omega⟩), Int.natCast_mul]
/-- P12.2's errors. -/
def rkE (pw ph : Int) (n : Nat) (bd W H k : Int) : Int := if chk pw ph n = 0 then (if cntV W H = 0 then 120 else if k < 0 then 121 else if cntV W H ≤ k then 121 else borE bd pw) else chk pw ph n
/-- A piece of a side. -/
def spnB (lo hi n : Int) : Bool := decide (0 ≤ lo) && decide (lo < hi) && decide (hi ≤ n)
end Go.Proofs.YtieojgblamkgoaaGreatDoor
