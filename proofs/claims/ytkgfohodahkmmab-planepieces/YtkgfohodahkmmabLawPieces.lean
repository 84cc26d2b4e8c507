/- What is said of pieces: the walk. -/
import Derived.Test.YtkgfohodahkmmabPlS
namespace Go.Proofs.Ytkgfohodahkmmab
open Go.RowKit
set_option linter.unusedVariables false
set_option linter.unusedSimpArgs false

set_option maxHeartbeats 8000000 in
set_option maxRecDepth 100000 in
theorem pieces_bad (W H : Int) (av : Option Addr) (n cap : Nat) (hn : n ≤ 9223372036854775807) (x0 y0 x1 y1 X0 Y0 X1 Y1 k l t : Int) (h : chk W H n ≠ 0 ∨ (∃ (S : List Nat) (a b g o : Nat), n = S.length ∧ W = a ∧ H = b ∧ av = some ⟨g, o, none⟩ ∧ Size a b ∧ S.length = a * b ∧ wiB x0 y0 x1 y1 a b = false)) (w : World) :
    Calls Try.prog 3 #[.agg #[.int .i64 W, .int .i64 H, .slice av n cap], .agg #[.int .i64 x0, .int .i64 y0, .int .i64 x1, .int .i64 y1], .agg #[.int .i64 X0, .int .i64 Y0, .int .i64 X1, .int .i64 Y1], .int .i64 k, .int .i64 l, .int .i64 t] w fun e w' => e = .returned (.bool true) ∧ Q w w' := by
  obtain ⟨w1, hw1⟩ : ∃ w1, ((w.alloc (.cells #[.int .i64 W, .int .i64 H, .slice av n cap] 24)).alloc (.cells #[.int .i64 x0, .int .i64 y0, .int .i64 x1, .int .i64 y1] 26)).alloc (.cells #[.int .i64 X0, .int .i64 Y0, .int .i64 X1, .int .i64 Y1] 26) = w1 := ⟨_, rfl⟩
  have QT : Q w w1 := by rw [← hw1]; exact (((Q.refl w).cells _ _).cells _ _).cells _ _
  have cr0 : w1.cell? ⟨w.heap.size + 1, 0, none⟩ = some (.int .i64 x0) := by rw [← hw1]; simp [go_sem]
  have cr1 : w1.cell? ⟨w.heap.size + 1, 1, none⟩ = some (.int .i64 y0) := by rw [← hw1]; simp [go_sem]
  have cr2 : w1.cell? ⟨w.heap.size + 1, 2, none⟩ = some (.int .i64 x1) := by rw [← hw1]; simp [go_sem]
  have cr3 : w1.cell? ⟨w.heap.size + 1, 3, none⟩ = some (.int .i64 y1) := by rw [← hw1]; simp [go_sem]
  have cs0 : w1.cell? ⟨w.heap.size + 1 + 1, 0, none⟩ = some (.int .i64 X0) := by rw [← hw1]; simp [go_sem]
  have cs1 : w1.cell? ⟨w.heap.size + 1 + 1, 1, none⟩ = some (.int .i64 Y0) := by rw [← hw1]; simp [go_sem]
  have cs2 : w1.cell? ⟨w.heap.size + 1 + 1, 2, none⟩ = some (.int .i64 X1) := by rw [← hw1]; simp [go_sem]
  have cs3 : w1.cell? ⟨w.heap.size + 1 + 1, 3, none⟩ = some (.int .i64 Y1) := by rw [← hw1]; simp [go_sem]
  have p0 : w1.cell? ⟨w.heap.size, 0, none⟩ = some (.int .i64 W) := by rw [← hw1]; simp [go_sem]
  have p1 : w1.cell? ⟨w.heap.size, 1, none⟩ = some (.int .i64 H) := by rw [← hw1]; simp [go_sem]
  have p2 : w1.cell? ⟨w.heap.size, 2, none⟩ = some (.slice av n cap) := by rw [← hw1]; simp [go_sem]
  have K := known_any w1
  have HC : Hid (∀ w : World, ∃ r : Int, r ≠ 0 ∧ Calls Try.prog 7 #[.agg #[.int .i64 W, .int .i64 H, .slice av n cap], .agg #[.int .i64 x0, .int .i64 y0, .int .i64 x1, .int .i64 y1]] w fun e w' => e = .returned (.tuple #[.agg #[.int .i64 0, .int .i64 0, .slice none 0 0], .int .i64 r]) ∧ Q w w') := fun w => crop_fail hn x0 y0 x1 y1 h
  clear h hn
  go_enter Try.func3, Try.ntmps3
  go_wp2_with fail
  clear hw1
  refine K.mono ?_
  rintro e w2 ⟨rfl, k2⟩
  replace p0 := k2.cell p0
  replace p1 := k2.cell p1
  replace p2 := k2.cell p2
  replace cr0 := k2.cell cr0
  replace cr1 := k2.cell cr1
  replace cr2 := k2.cell cr2
  replace cr3 := k2.cell cr3
  replace cs0 := k2.cell cs0
  replace cs1 := k2.cell cs1
  replace cs2 := k2.cell cs2
  replace cs3 := k2.cell cs3
  replace QT := QT.trans k2
  clear K k2
  go_wp2_with fail
  obtain ⟨r, hr, CR⟩ := HC.out w2
  refine CR.mono ?_
  rintro e w3 ⟨rfl, q3⟩
  have hb : (r != 0) = true := by rw [bne_iff_ne]; exact hr
  have NN := fun w : World => num_any r w
  have q4 : Q w3 (w3.alloc (.cells #[.int .i64 0, .int .i64 0, .slice none 0 0] 24)) := (Q.refl _).cells _ _
  clear CR HC hr
  go_wp2_with fail
  refine (NN _).mono ?_
  rintro e w5 ⟨rfl, rfl⟩
  go_wp2_with fail
  go_ret
  exact ⟨rfl, (QT.trans q3).trans q4⟩
set_option maxHeartbeats 8000000 in
set_option maxRecDepth 100000 in
theorem pieces_00 (a b g o n cap : Nat) (S : List Nat) (rx ry c d : Nat) (x1 y1 X0 Y0 X1 Y1 k l t : Int) (hr : Rct a b rx ry c d) (hx1 : x1 = (rx + c : Nat)) (hy1 : y1 = (ry + d : Nat)) (bt : -9223372036854775808 ≤ l ∧ l ≤ 9223372036854775807) (hw2 : wiB X0 Y0 X1 Y1 c d = false) (re : Int) (hre : extE k l t 1 2 a b = re) (hre0 : re ≠ 0) (w : World) (hp : Pl w g o n cap a b S) :
    Calls Try.prog 3 #[.agg #[.int .i64 (a : Int), .int .i64 (b : Int), .slice (some ⟨g, o, none⟩) n cap], .agg #[.int .i64 (rx : Int), .int .i64 (ry : Int), .int .i64 x1, .int .i64 y1], .agg #[.int .i64 X0, .int .i64 Y0, .int .i64 X1, .int .i64 Y1], .int .i64 k, .int .i64 l, .int .i64 t] w fun e w' => e = .returned (.bool true) ∧ Q w w' := by
  obtain ⟨w1, hw1⟩ : ∃ w1, ((w.alloc (.cells #[.int .i64 (a : Int), .int .i64 (b : Int), .slice (some ⟨g, o, none⟩) n cap] 24)).alloc (.cells #[.int .i64 (rx : Int), .int .i64 (ry : Int), .int .i64 x1, .int .i64 y1] 26)).alloc (.cells #[.int .i64 X0, .int .i64 Y0, .int .i64 X1, .int .i64 Y1] 26) = w1 := ⟨_, rfl⟩
  have QT : Q w w1 := by rw [← hw1]; exact (((Q.refl w).cells _ _).cells _ _).cells _ _
  have cr0 : w1.cell? ⟨w.heap.size + 1, 0, none⟩ = some (.int .i64 (rx : Int)) := by rw [← hw1]; simp [go_sem]
  have cr1 : w1.cell? ⟨w.heap.size + 1, 1, none⟩ = some (.int .i64 (ry : Int)) := by rw [← hw1]; simp [go_sem]
  have cr2 : w1.cell? ⟨w.heap.size + 1, 2, none⟩ = some (.int .i64 x1) := by rw [← hw1]; simp [go_sem]
  have cr3 : w1.cell? ⟨w.heap.size + 1, 3, none⟩ = some (.int .i64 y1) := by rw [← hw1]; simp [go_sem]
  have cs0 : w1.cell? ⟨w.heap.size + 1 + 1, 0, none⟩ = some (.int .i64 X0) := by rw [← hw1]; simp [go_sem]
  have cs1 : w1.cell? ⟨w.heap.size + 1 + 1, 1, none⟩ = some (.int .i64 Y0) := by rw [← hw1]; simp [go_sem]
  have cs2 : w1.cell? ⟨w.heap.size + 1 + 1, 2, none⟩ = some (.int .i64 X1) := by rw [← hw1]; simp [go_sem]
  have cs3 : w1.cell? ⟨w.heap.size + 1 + 1, 3, none⟩ = some (.int .i64 Y1) := by rw [← hw1]; simp [go_sem]
  have K := known_any w1
  have Pp : Hid (Pl w1 g o n cap a b S) := hp.next QT
  have Bp : Hid (PBox w1 w.heap.size a b (.slice (some ⟨g, o, none⟩) n cap)) := by rw [← hw1]; exact ⟨by simp [go_sem], by simp [go_sem], by simp [go_sem]⟩
  have HLen : Hid (S.length = a * b) := hp.len
  have z0 : ((0 : Int) != 0) = false := by decide
  have z1 : ((0 : Int) == 0) = true := by decide
  have NN := fun w : World => num_any 0 w
  have HR : Hid (Rct a b rx ry c d) := hr
  have HX : Hid (x1 = (rx + c : Nat) ∧ y1 = (ry + d : Nat)) := ⟨hx1, hy1⟩
  have C2 : Hid (∀ w : World, ∀ g' n' : Nat, Pl w g' 0 n' n' c d (crL a rx ry c d S) → Calls Try.prog 7 #[.agg #[.int .i64 (c : Int), .int .i64 (d : Int), .slice (some ⟨g', 0, none⟩) n' n'], .agg #[.int .i64 X0, .int .i64 Y0, .int .i64 X1, .int .i64 Y1]] w fun e w' => e = .returned (.tuple #[.agg #[.int .i64 0, .int .i64 0, .slice none 0 0], .int .i64 52]) ∧ Q w w') := by
    intro w g' n' h
    have e := h.eq
    subst e
    exact crop_out h.size h.len g' 0 _ X0 Y0 X1 Y1 hw2 w
  have z52 : ((52 : Int) == 0) = false := by decide
  clear hw2
  have EX : Hid (∀ w : World, Pl w g o n cap a b S → Calls Try.prog 11 #[.agg #[.int .i64 (a : Int), .int .i64 (b : Int), .slice (some ⟨g, o, none⟩) n cap], .int .i64 k, .int .i64 l, .int .i64 t, .int .i64 1, .int .i64 2] w fun e w' => e = .returned (.tuple #[.agg #[.int .i64 0, .int .i64 0, .slice none 0 0], .int .i64 re]) ∧ Q w w') := fun w h => ext_fail h k l t 1 2 hre hre0
  have zre : (re != 0) = true := by rw [bne_iff_ne]; exact hre0
  clear hre hre0
  clear hp hr hx1 hy1
  go_enter Try.func3, Try.ntmps3
  go_wp2_with fail
  clear hw1
  refine K.mono ?_
  rintro e w2 ⟨rfl, k2⟩
  replace Bp : Hid (PBox w2 w.heap.size a b (.slice (some ⟨g, o, none⟩) n cap)) := Bp.out.next k2
  replace Pp : Hid (Pl w2 g o n cap a b S) := Pp.out.next k2
  replace cr0 := k2.cell cr0
  replace cr1 := k2.cell cr1
  replace cr2 := k2.cell cr2
  replace cr3 := k2.cell cr3
  replace cs0 := k2.cell cs0
  replace cs1 := k2.cell cs1
  replace cs2 := k2.cell cs2
  replace cs3 := k2.cell cs3
  replace QT := QT.trans k2
  clear K k2
  obtain ⟨tp0, tp1, tp2⟩ := id Bp.out
  go_wp2_with fail
  refine (pl_crop Pp.out HR.out x1 y1 HX.out.1 HX.out.2).mono ?_
  rintro e v1 ⟨g1, n1, rfl, q1, _, _, Pc⟩
  clear tp0 tp1 tp2
  obtain ⟨u1, hu1⟩ : ∃ u1, v1.alloc (.cells #[.int .i64 ((c : Nat) : Int), .int .i64 ((d : Nat) : Int), .slice (some ⟨g1, 0, none⟩) n1 n1] 24) = u1 := ⟨_, rfl⟩
  have r1 : Q v1 u1 := by rw [← hu1]; exact (Q.refl _).cells _ _
  have Bc : Hid (PBox u1 v1.heap.size (c) (d) (.slice (some ⟨g1, 0, none⟩) n1 n1)) := by rw [← hu1]; exact ⟨by simp [go_sem], by simp [go_sem], by simp [go_sem]⟩
  have s1 : Q w2 u1 := q1.trans r1
  replace Bp : Hid (PBox u1 w.heap.size a b (.slice (some ⟨g, o, none⟩) n cap)) := Bp.out.next s1
  replace Pp : Hid (Pl u1 g o n cap a b S) := Pp.out.next s1
  replace cr0 := s1.cell cr0
  replace cr1 := s1.cell cr1
  replace cr2 := s1.cell cr2
  replace cr3 := s1.cell cr3
  replace cs0 := s1.cell cs0
  replace cs1 := s1.cell cs1
  replace cs2 := s1.cell cs2
  replace cs3 := s1.cell cs3
  replace Pc : Hid (Pl u1 g1 0 n1 n1 (c) (d) (crL a rx ry c d S)) := Pc.out.next r1
  replace QT : Q w u1 := QT.trans s1
  obtain ⟨L1, hL1⟩ : ∃ L, v1.heap.size = L := ⟨_, rfl⟩
  rw [hL1] at Bc
  clear q1 r1 s1
  obtain ⟨tp0, tp1, tp2⟩ := id Bp.out
  obtain ⟨tc0, tc1, tc2⟩ := id Bc.out
  go_wp2_with fail
  clear hu1 hL1
  refine (NN _).mono ?_
  rintro e wn ⟨rfl, hn⟩
  rw [hn]
  clear hn wn
  go_wp2_with fail
  refine (pl_paste Pp.out Pc.out (rx : Int) (ry : Int)).mono ?_
  rintro e v2 ⟨g2, n2, rfl, q2, _, _, Pk⟩
  clear tp0 tp1 tp2
  clear tc0 tc1 tc2
  obtain ⟨u2, hu2⟩ : ∃ u2, v2.alloc (.cells #[.int .i64 ((a : Nat) : Int), .int .i64 ((b : Nat) : Int), .slice (some ⟨g2, 0, none⟩) n2 n2] 24) = u2 := ⟨_, rfl⟩
  have r2 : Q v2 u2 := by rw [← hu2]; exact (Q.refl _).cells _ _
  have Bk : Hid (PBox u2 v2.heap.size (a) (b) (.slice (some ⟨g2, 0, none⟩) n2 n2)) := by rw [← hu2]; exact ⟨by simp [go_sem], by simp [go_sem], by simp [go_sem]⟩
  have s2 : Q u1 u2 := q2.trans r2
  replace Bp : Hid (PBox u2 w.heap.size a b (.slice (some ⟨g, o, none⟩) n cap)) := Bp.out.next s2
  replace Pp : Hid (Pl u2 g o n cap a b S) := Pp.out.next s2
  replace Bc : Hid (PBox u2 L1 (c) (d) (.slice (some ⟨g1, 0, none⟩) n1 n1)) := Bc.out.next s2
  replace Pc : Hid (Pl u2 g1 0 n1 n1 (c) (d) (crL a rx ry c d S)) := Pc.out.next s2
  replace cr0 := s2.cell cr0
  replace cr1 := s2.cell cr1
  replace cr2 := s2.cell cr2
  replace cr3 := s2.cell cr3
  replace cs0 := s2.cell cs0
  replace cs1 := s2.cell cs1
  replace cs2 := s2.cell cs2
  replace cs3 := s2.cell cs3
  replace Pk : Hid (Pl u2 g2 0 n2 n2 (a) (b) (tab a b (pasV S a (crL a rx ry c d S) c d rx ry))) := Pk.out.next r2
  replace QT : Q w u2 := QT.trans s2
  obtain ⟨L2, hL2⟩ : ∃ L, v2.heap.size = L := ⟨_, rfl⟩
  rw [hL2] at Bk
  clear q2 r2 s2
  obtain ⟨tk0, tk1, tk2⟩ := id Bk.out
  obtain ⟨tp0, tp1, tp2⟩ := id Bp.out
  go_wp2_with fail
  clear hu2 hL2
  refine (pl_same Pk.out Pp.out rfl rfl (paste_back HLen.out HR.out)).mono ?_
  rintro e v3 ⟨rfl, q3⟩
  clear tk0 tk1 tk2
  clear tp0 tp1 tp2
  replace Bp : Hid (PBox v3 w.heap.size a b (.slice (some ⟨g, o, none⟩) n cap)) := Bp.out.next q3
  replace Pp : Hid (Pl v3 g o n cap a b S) := Pp.out.next q3
  replace Bc : Hid (PBox v3 L1 (c) (d) (.slice (some ⟨g1, 0, none⟩) n1 n1)) := Bc.out.next q3
  replace Pc : Hid (Pl v3 g1 0 n1 n1 (c) (d) (crL a rx ry c d S)) := Pc.out.next q3
  replace Bk : Hid (PBox v3 L2 (a) (b) (.slice (some ⟨g2, 0, none⟩) n2 n2)) := Bk.out.next q3
  replace Pk : Hid (Pl v3 g2 0 n2 n2 (a) (b) (tab a b (pasV S a (crL a rx ry c d S) c d rx ry))) := Pk.out.next q3
  replace cr0 := q3.cell cr0
  replace cr1 := q3.cell cr1
  replace cr2 := q3.cell cr2
  replace cr3 := q3.cell cr3
  replace cs0 := q3.cell cs0
  replace cs1 := q3.cell cs1
  replace cs2 := q3.cell cs2
  replace cs3 := q3.cell cs3
  replace QT := QT.trans q3
  clear q3
  obtain ⟨tc0, tc1, tc2⟩ := id Bc.out
  go_wp2_with fail
  refine (C2.out _ _ _ Pc.out).mono ?_
  rintro e v4 ⟨rfl, q4⟩
  clear tc0 tc1 tc2
  have r4 : Q v4 (v4.alloc (.cells #[.int .i64 0, .int .i64 0, .slice none 0 0] 24)) := (Q.refl _).cells _ _
  have dd4 : (v4.alloc (.cells #[.int .i64 0, .int .i64 0, .slice none 0 0] 24)).cell? ⟨v4.heap.size, 2, none⟩ = some (.slice none 0 0) := by simp [go_sem]
  have s4 : Q v3 (v4.alloc (.cells #[.int .i64 0, .int .i64 0, .slice none 0 0] 24)) := q4.trans r4
  replace Bp : Hid (PBox (v4.alloc (.cells #[.int .i64 0, .int .i64 0, .slice none 0 0] 24)) w.heap.size a b (.slice (some ⟨g, o, none⟩) n cap)) := Bp.out.next s4
  replace Pp : Hid (Pl (v4.alloc (.cells #[.int .i64 0, .int .i64 0, .slice none 0 0] 24)) g o n cap a b S) := Pp.out.next s4
  replace Bc : Hid (PBox (v4.alloc (.cells #[.int .i64 0, .int .i64 0, .slice none 0 0] 24)) L1 (c) (d) (.slice (some ⟨g1, 0, none⟩) n1 n1)) := Bc.out.next s4
  replace Pc : Hid (Pl (v4.alloc (.cells #[.int .i64 0, .int .i64 0, .slice none 0 0] 24)) g1 0 n1 n1 (c) (d) (crL a rx ry c d S)) := Pc.out.next s4
  replace Bk : Hid (PBox (v4.alloc (.cells #[.int .i64 0, .int .i64 0, .slice none 0 0] 24)) L2 (a) (b) (.slice (some ⟨g2, 0, none⟩) n2 n2)) := Bk.out.next s4
  replace Pk : Hid (Pl (v4.alloc (.cells #[.int .i64 0, .int .i64 0, .slice none 0 0] 24)) g2 0 n2 n2 (a) (b) (tab a b (pasV S a (crL a rx ry c d S) c d rx ry))) := Pk.out.next s4
  replace cr0 := s4.cell cr0
  replace cr1 := s4.cell cr1
  replace cr2 := s4.cell cr2
  replace cr3 := s4.cell cr3
  replace cs0 := s4.cell cs0
  replace cs1 := s4.cell cs1
  replace cs2 := s4.cell cs2
  replace cs3 := s4.cell cs3
  replace QT := QT.trans s4
  clear q4 r4 s4
  obtain ⟨tp0, tp1, tp2⟩ := id Bp.out
  go_wp2_with fail
  generalize (v4.alloc (.cells #[.int .i64 0, .int .i64 0, .slice none 0 0] 24)) = u4 at dd4 QT Bp Pp Bc Pc Bk Pk cr0 cr1 cr2 cr3 cs0 cs1 cs2 cs3 tp0 tp1 tp2 ⊢
  refine (num_any 52 _).mono ?_
  rintro e wn ⟨rfl, hn⟩
  rw [hn]
  clear hn wn
  go_wp2_with fail
  refine (EX.out _ Pp.out).mono ?_
  rintro e v5 ⟨rfl, q5⟩
  clear tp0 tp1 tp2
  have r5 : Q v5 (v5.alloc (.cells #[.int .i64 0, .int .i64 0, .slice none 0 0] 24)) := (Q.refl _).cells _ _
  have dd5 : (v5.alloc (.cells #[.int .i64 0, .int .i64 0, .slice none 0 0] 24)).cell? ⟨v5.heap.size, 2, none⟩ = some (.slice none 0 0) := by simp [go_sem]
  have s5 : Q u4 (v5.alloc (.cells #[.int .i64 0, .int .i64 0, .slice none 0 0] 24)) := q5.trans r5
  replace Bp : Hid (PBox (v5.alloc (.cells #[.int .i64 0, .int .i64 0, .slice none 0 0] 24)) w.heap.size a b (.slice (some ⟨g, o, none⟩) n cap)) := Bp.out.next s5
  replace Pp : Hid (Pl (v5.alloc (.cells #[.int .i64 0, .int .i64 0, .slice none 0 0] 24)) g o n cap a b S) := Pp.out.next s5
  replace Bc : Hid (PBox (v5.alloc (.cells #[.int .i64 0, .int .i64 0, .slice none 0 0] 24)) L1 (c) (d) (.slice (some ⟨g1, 0, none⟩) n1 n1)) := Bc.out.next s5
  replace Pc : Hid (Pl (v5.alloc (.cells #[.int .i64 0, .int .i64 0, .slice none 0 0] 24)) g1 0 n1 n1 (c) (d) (crL a rx ry c d S)) := Pc.out.next s5
  replace Bk : Hid (PBox (v5.alloc (.cells #[.int .i64 0, .int .i64 0, .slice none 0 0] 24)) L2 (a) (b) (.slice (some ⟨g2, 0, none⟩) n2 n2)) := Bk.out.next s5
  replace Pk : Hid (Pl (v5.alloc (.cells #[.int .i64 0, .int .i64 0, .slice none 0 0] 24)) g2 0 n2 n2 (a) (b) (tab a b (pasV S a (crL a rx ry c d S) c d rx ry))) := Pk.out.next s5
  replace cr0 := s5.cell cr0
  replace cr1 := s5.cell cr1
  replace cr2 := s5.cell cr2
  replace cr3 := s5.cell cr3
  replace cs0 := s5.cell cs0
  replace cs1 := s5.cell cs1
  replace cs2 := s5.cell cs2
  replace cs3 := s5.cell cs3
  replace QT := QT.trans s5
  clear q5 r5 s5
  go_wp2_with fail
  generalize (v5.alloc (.cells #[.int .i64 0, .int .i64 0, .slice none 0 0] 24)) = u5 at dd5 QT Bp Pp Bc Pc Bk Pk cr0 cr1 cr2 cr3 cs0 cs1 cs2 cs3  ⊢
  refine (num_any re _).mono ?_
  rintro e wn ⟨rfl, hn⟩
  rw [hn]
  clear hn wn
  go_wp2_with fail
  go_ret
  exact ⟨rfl, QT⟩
set_option maxHeartbeats 8000000 in
set_option maxRecDepth 100000 in
theorem pieces_01 (a b g o n cap : Nat) (S : List Nat) (rx ry c d : Nat) (x1 y1 X0 Y0 X1 Y1 k : Int) (hr : Rct a b rx ry c d) (hx1 : x1 = (rx + c : Nat)) (hy1 : y1 = (ry + d : Nat)) (hw2 : wiB X0 Y0 X1 Y1 c d = false) (ll tt : Nat) (hk : k = 1 ∨ k = 2 ∨ k = 3) (hll : ll ≤ 1024) (htt : tt ≤ 1024) (hsz : Size (ll + a + 1) (tt + b + 2)) (w : World) (hp : Pl w g o n cap a b S) :
    Calls Try.prog 3 #[.agg #[.int .i64 (a : Int), .int .i64 (b : Int), .slice (some ⟨g, o, none⟩) n cap], .agg #[.int .i64 (rx : Int), .int .i64 (ry : Int), .int .i64 x1, .int .i64 y1], .agg #[.int .i64 X0, .int .i64 Y0, .int .i64 X1, .int .i64 Y1], .int .i64 k, .int .i64 (ll : Int), .int .i64 (tt : Int)] w fun e w' => e = .returned (.bool true) ∧ Q w w' := by
  obtain ⟨w1, hw1⟩ : ∃ w1, ((w.alloc (.cells #[.int .i64 (a : Int), .int .i64 (b : Int), .slice (some ⟨g, o, none⟩) n cap] 24)).alloc (.cells #[.int .i64 (rx : Int), .int .i64 (ry : Int), .int .i64 x1, .int .i64 y1] 26)).alloc (.cells #[.int .i64 X0, .int .i64 Y0, .int .i64 X1, .int .i64 Y1] 26) = w1 := ⟨_, rfl⟩
  have QT : Q w w1 := by rw [← hw1]; exact (((Q.refl w).cells _ _).cells _ _).cells _ _
  have cr0 : w1.cell? ⟨w.heap.size + 1, 0, none⟩ = some (.int .i64 (rx : Int)) := by rw [← hw1]; simp [go_sem]
  have cr1 : w1.cell? ⟨w.heap.size + 1, 1, none⟩ = some (.int .i64 (ry : Int)) := by rw [← hw1]; simp [go_sem]
  have cr2 : w1.cell? ⟨w.heap.size + 1, 2, none⟩ = some (.int .i64 x1) := by rw [← hw1]; simp [go_sem]
  have cr3 : w1.cell? ⟨w.heap.size + 1, 3, none⟩ = some (.int .i64 y1) := by rw [← hw1]; simp [go_sem]
  have cs0 : w1.cell? ⟨w.heap.size + 1 + 1, 0, none⟩ = some (.int .i64 X0) := by rw [← hw1]; simp [go_sem]
  have cs1 : w1.cell? ⟨w.heap.size + 1 + 1, 1, none⟩ = some (.int .i64 Y0) := by rw [← hw1]; simp [go_sem]
  have cs2 : w1.cell? ⟨w.heap.size + 1 + 1, 2, none⟩ = some (.int .i64 X1) := by rw [← hw1]; simp [go_sem]
  have cs3 : w1.cell? ⟨w.heap.size + 1 + 1, 3, none⟩ = some (.int .i64 Y1) := by rw [← hw1]; simp [go_sem]
  have K := known_any w1
  have Pp : Hid (Pl w1 g o n cap a b S) := hp.next QT
  have Bp : Hid (PBox w1 w.heap.size a b (.slice (some ⟨g, o, none⟩) n cap)) := by rw [← hw1]; exact ⟨by simp [go_sem], by simp [go_sem], by simp [go_sem]⟩
  have HLen : Hid (S.length = a * b) := hp.len
  have z0 : ((0 : Int) != 0) = false := by decide
  have z1 : ((0 : Int) == 0) = true := by decide
  have NN := fun w : World => num_any 0 w
  have HR : Hid (Rct a b rx ry c d) := hr
  have HX : Hid (x1 = (rx + c : Nat) ∧ y1 = (ry + d : Nat)) := ⟨hx1, hy1⟩
  have C2 : Hid (∀ w : World, ∀ g' n' : Nat, Pl w g' 0 n' n' c d (crL a rx ry c d S) → Calls Try.prog 7 #[.agg #[.int .i64 (c : Int), .int .i64 (d : Int), .slice (some ⟨g', 0, none⟩) n' n'], .agg #[.int .i64 X0, .int .i64 Y0, .int .i64 X1, .int .i64 Y1]] w fun e w' => e = .returned (.tuple #[.agg #[.int .i64 0, .int .i64 0, .slice none 0 0], .int .i64 52]) ∧ Q w w') := by
    intro w g' n' h
    have e := h.eq
    subst e
    exact crop_out h.size h.len g' 0 _ X0 Y0 X1 Y1 hw2 w
  have z52 : ((52 : Int) == 0) = false := by decide
  clear hw2
  obtain ⟨PW, hPW⟩ : ∃ PW, ll + a + 1 = PW := ⟨_, rfl⟩
  obtain ⟨PH, hPH⟩ : ∃ PH, tt + b + 2 = PH := ⟨_, rfl⟩
  have EXG : Hid (∀ w : World, Pl w g o n cap a b S → Calls Try.prog 11 #[.agg #[.int .i64 (a : Int), .int .i64 (b : Int), .slice (some ⟨g, o, none⟩) n cap], .int .i64 k, .int .i64 (ll : Int), .int .i64 (tt : Int), .int .i64 1, .int .i64 2] w (Mk w PW PH (tab PW PH (extV S a b k ll tt)))) := by
    intro w h
    have := pl_ext h k ll tt 1 2 hk hll htt (by decide) (by decide) hsz
    rw [hPW, hPH] at this
    exact this
  have HEQ : Hid (crL PW ll tt a b (tab PW PH (extV S a b k ll tt)) = S) := by
    have := crop_ext (l := ll) (t := tt) (r := 1) (s := 2) hp.len hk
    rw [hPW, hPH] at this
    exact this
  have HE : Hid (Rct PW PH ll tt a b) := ⟨hp.size.a1, by omega, hp.size.b1, by omega⟩
  have HE2 : Hid ((ll : Int) + (a : Int) = (ll + a : Nat) ∧ (tt : Int) + (b : Int) = (tt + b : Nat)) := ⟨by omega, by omega⟩
  have bA := hp.size.a2
  have bB := hp.size.b2
  clear hk hsz hPW hPH
  clear hp hr hx1 hy1
  go_enter Try.func3, Try.ntmps3
  go_wp2_with fail
  clear hw1
  refine K.mono ?_
  rintro e w2 ⟨rfl, k2⟩
  replace Bp : Hid (PBox w2 w.heap.size a b (.slice (some ⟨g, o, none⟩) n cap)) := Bp.out.next k2
  replace Pp : Hid (Pl w2 g o n cap a b S) := Pp.out.next k2
  replace cr0 := k2.cell cr0
  replace cr1 := k2.cell cr1
  replace cr2 := k2.cell cr2
  replace cr3 := k2.cell cr3
  replace cs0 := k2.cell cs0
  replace cs1 := k2.cell cs1
  replace cs2 := k2.cell cs2
  replace cs3 := k2.cell cs3
  replace QT := QT.trans k2
  clear K k2
  obtain ⟨tp0, tp1, tp2⟩ := id Bp.out
  go_wp2_with fail
  refine (pl_crop Pp.out HR.out x1 y1 HX.out.1 HX.out.2).mono ?_
  rintro e v1 ⟨g1, n1, rfl, q1, _, _, Pc⟩
  clear tp0 tp1 tp2
  obtain ⟨u1, hu1⟩ : ∃ u1, v1.alloc (.cells #[.int .i64 ((c : Nat) : Int), .int .i64 ((d : Nat) : Int), .slice (some ⟨g1, 0, none⟩) n1 n1] 24) = u1 := ⟨_, rfl⟩
  have r1 : Q v1 u1 := by rw [← hu1]; exact (Q.refl _).cells _ _
  have Bc : Hid (PBox u1 v1.heap.size (c) (d) (.slice (some ⟨g1, 0, none⟩) n1 n1)) := by rw [← hu1]; exact ⟨by simp [go_sem], by simp [go_sem], by simp [go_sem]⟩
  have s1 : Q w2 u1 := q1.trans r1
  replace Bp : Hid (PBox u1 w.heap.size a b (.slice (some ⟨g, o, none⟩) n cap)) := Bp.out.next s1
  replace Pp : Hid (Pl u1 g o n cap a b S) := Pp.out.next s1
  replace cr0 := s1.cell cr0
  replace cr1 := s1.cell cr1
  replace cr2 := s1.cell cr2
  replace cr3 := s1.cell cr3
  replace cs0 := s1.cell cs0
  replace cs1 := s1.cell cs1
  replace cs2 := s1.cell cs2
  replace cs3 := s1.cell cs3
  replace Pc : Hid (Pl u1 g1 0 n1 n1 (c) (d) (crL a rx ry c d S)) := Pc.out.next r1
  replace QT : Q w u1 := QT.trans s1
  obtain ⟨L1, hL1⟩ : ∃ L, v1.heap.size = L := ⟨_, rfl⟩
  rw [hL1] at Bc
  clear q1 r1 s1
  obtain ⟨tp0, tp1, tp2⟩ := id Bp.out
  obtain ⟨tc0, tc1, tc2⟩ := id Bc.out
  go_wp2_with fail
  clear hu1 hL1
  refine (NN _).mono ?_
  rintro e wn ⟨rfl, hn⟩
  rw [hn]
  clear hn wn
  go_wp2_with fail
  refine (pl_paste Pp.out Pc.out (rx : Int) (ry : Int)).mono ?_
  rintro e v2 ⟨g2, n2, rfl, q2, _, _, Pk⟩
  clear tp0 tp1 tp2
  clear tc0 tc1 tc2
  obtain ⟨u2, hu2⟩ : ∃ u2, v2.alloc (.cells #[.int .i64 ((a : Nat) : Int), .int .i64 ((b : Nat) : Int), .slice (some ⟨g2, 0, none⟩) n2 n2] 24) = u2 := ⟨_, rfl⟩
  have r2 : Q v2 u2 := by rw [← hu2]; exact (Q.refl _).cells _ _
  have Bk : Hid (PBox u2 v2.heap.size (a) (b) (.slice (some ⟨g2, 0, none⟩) n2 n2)) := by rw [← hu2]; exact ⟨by simp [go_sem], by simp [go_sem], by simp [go_sem]⟩
  have s2 : Q u1 u2 := q2.trans r2
  replace Bp : Hid (PBox u2 w.heap.size a b (.slice (some ⟨g, o, none⟩) n cap)) := Bp.out.next s2
  replace Pp : Hid (Pl u2 g o n cap a b S) := Pp.out.next s2
  replace Bc : Hid (PBox u2 L1 (c) (d) (.slice (some ⟨g1, 0, none⟩) n1 n1)) := Bc.out.next s2
  replace Pc : Hid (Pl u2 g1 0 n1 n1 (c) (d) (crL a rx ry c d S)) := Pc.out.next s2
  replace cr0 := s2.cell cr0
  replace cr1 := s2.cell cr1
  replace cr2 := s2.cell cr2
  replace cr3 := s2.cell cr3
  replace cs0 := s2.cell cs0
  replace cs1 := s2.cell cs1
  replace cs2 := s2.cell cs2
  replace cs3 := s2.cell cs3
  replace Pk : Hid (Pl u2 g2 0 n2 n2 (a) (b) (tab a b (pasV S a (crL a rx ry c d S) c d rx ry))) := Pk.out.next r2
  replace QT : Q w u2 := QT.trans s2
  obtain ⟨L2, hL2⟩ : ∃ L, v2.heap.size = L := ⟨_, rfl⟩
  rw [hL2] at Bk
  clear q2 r2 s2
  obtain ⟨tk0, tk1, tk2⟩ := id Bk.out
  obtain ⟨tp0, tp1, tp2⟩ := id Bp.out
  go_wp2_with fail
  clear hu2 hL2
  refine (pl_same Pk.out Pp.out rfl rfl (paste_back HLen.out HR.out)).mono ?_
  rintro e v3 ⟨rfl, q3⟩
  clear tk0 tk1 tk2
  clear tp0 tp1 tp2
  replace Bp : Hid (PBox v3 w.heap.size a b (.slice (some ⟨g, o, none⟩) n cap)) := Bp.out.next q3
  replace Pp : Hid (Pl v3 g o n cap a b S) := Pp.out.next q3
  replace Bc : Hid (PBox v3 L1 (c) (d) (.slice (some ⟨g1, 0, none⟩) n1 n1)) := Bc.out.next q3
  replace Pc : Hid (Pl v3 g1 0 n1 n1 (c) (d) (crL a rx ry c d S)) := Pc.out.next q3
  replace Bk : Hid (PBox v3 L2 (a) (b) (.slice (some ⟨g2, 0, none⟩) n2 n2)) := Bk.out.next q3
  replace Pk : Hid (Pl v3 g2 0 n2 n2 (a) (b) (tab a b (pasV S a (crL a rx ry c d S) c d rx ry))) := Pk.out.next q3
  replace cr0 := q3.cell cr0
  replace cr1 := q3.cell cr1
  replace cr2 := q3.cell cr2
  replace cr3 := q3.cell cr3
  replace cs0 := q3.cell cs0
  replace cs1 := q3.cell cs1
  replace cs2 := q3.cell cs2
  replace cs3 := q3.cell cs3
  replace QT := QT.trans q3
  clear q3
  obtain ⟨tc0, tc1, tc2⟩ := id Bc.out
  go_wp2_with fail
  refine (C2.out _ _ _ Pc.out).mono ?_
  rintro e v4 ⟨rfl, q4⟩
  clear tc0 tc1 tc2
  have r4 : Q v4 (v4.alloc (.cells #[.int .i64 0, .int .i64 0, .slice none 0 0] 24)) := (Q.refl _).cells _ _
  have dd4 : (v4.alloc (.cells #[.int .i64 0, .int .i64 0, .slice none 0 0] 24)).cell? ⟨v4.heap.size, 2, none⟩ = some (.slice none 0 0) := by simp [go_sem]
  have s4 : Q v3 (v4.alloc (.cells #[.int .i64 0, .int .i64 0, .slice none 0 0] 24)) := q4.trans r4
  replace Bp : Hid (PBox (v4.alloc (.cells #[.int .i64 0, .int .i64 0, .slice none 0 0] 24)) w.heap.size a b (.slice (some ⟨g, o, none⟩) n cap)) := Bp.out.next s4
  replace Pp : Hid (Pl (v4.alloc (.cells #[.int .i64 0, .int .i64 0, .slice none 0 0] 24)) g o n cap a b S) := Pp.out.next s4
  replace Bc : Hid (PBox (v4.alloc (.cells #[.int .i64 0, .int .i64 0, .slice none 0 0] 24)) L1 (c) (d) (.slice (some ⟨g1, 0, none⟩) n1 n1)) := Bc.out.next s4
  replace Pc : Hid (Pl (v4.alloc (.cells #[.int .i64 0, .int .i64 0, .slice none 0 0] 24)) g1 0 n1 n1 (c) (d) (crL a rx ry c d S)) := Pc.out.next s4
  replace Bk : Hid (PBox (v4.alloc (.cells #[.int .i64 0, .int .i64 0, .slice none 0 0] 24)) L2 (a) (b) (.slice (some ⟨g2, 0, none⟩) n2 n2)) := Bk.out.next s4
  replace Pk : Hid (Pl (v4.alloc (.cells #[.int .i64 0, .int .i64 0, .slice none 0 0] 24)) g2 0 n2 n2 (a) (b) (tab a b (pasV S a (crL a rx ry c d S) c d rx ry))) := Pk.out.next s4
  replace cr0 := s4.cell cr0
  replace cr1 := s4.cell cr1
  replace cr2 := s4.cell cr2
  replace cr3 := s4.cell cr3
  replace cs0 := s4.cell cs0
  replace cs1 := s4.cell cs1
  replace cs2 := s4.cell cs2
  replace cs3 := s4.cell cs3
  replace QT := QT.trans s4
  clear q4 r4 s4
  obtain ⟨tp0, tp1, tp2⟩ := id Bp.out
  go_wp2_with fail
  generalize (v4.alloc (.cells #[.int .i64 0, .int .i64 0, .slice none 0 0] 24)) = u4 at dd4 QT Bp Pp Bc Pc Bk Pk cr0 cr1 cr2 cr3 cs0 cs1 cs2 cs3 tp0 tp1 tp2 ⊢
  refine (num_any 52 _).mono ?_
  rintro e wn ⟨rfl, hn⟩
  rw [hn]
  clear hn wn
  go_wp2_with fail
  refine (EXG.out _ Pp.out).mono ?_
  rintro e v5 ⟨g5, n5, rfl, q5, _, _, Px⟩
  clear tp0 tp1 tp2
  obtain ⟨u5, hu5⟩ : ∃ u5, v5.alloc (.cells #[.int .i64 ((PW : Nat) : Int), .int .i64 ((PH : Nat) : Int), .slice (some ⟨g5, 0, none⟩) n5 n5] 24) = u5 := ⟨_, rfl⟩
  have r5 : Q v5 u5 := by rw [← hu5]; exact (Q.refl _).cells _ _
  have Bx : Hid (PBox u5 v5.heap.size (PW) (PH) (.slice (some ⟨g5, 0, none⟩) n5 n5)) := by rw [← hu5]; exact ⟨by simp [go_sem], by simp [go_sem], by simp [go_sem]⟩
  have s5 : Q u4 u5 := q5.trans r5
  replace Bp : Hid (PBox u5 w.heap.size a b (.slice (some ⟨g, o, none⟩) n cap)) := Bp.out.next s5
  replace Pp : Hid (Pl u5 g o n cap a b S) := Pp.out.next s5
  replace Bc : Hid (PBox u5 L1 (c) (d) (.slice (some ⟨g1, 0, none⟩) n1 n1)) := Bc.out.next s5
  replace Pc : Hid (Pl u5 g1 0 n1 n1 (c) (d) (crL a rx ry c d S)) := Pc.out.next s5
  replace Bk : Hid (PBox u5 L2 (a) (b) (.slice (some ⟨g2, 0, none⟩) n2 n2)) := Bk.out.next s5
  replace Pk : Hid (Pl u5 g2 0 n2 n2 (a) (b) (tab a b (pasV S a (crL a rx ry c d S) c d rx ry))) := Pk.out.next s5
  replace cr0 := s5.cell cr0
  replace cr1 := s5.cell cr1
  replace cr2 := s5.cell cr2
  replace cr3 := s5.cell cr3
  replace cs0 := s5.cell cs0
  replace cs1 := s5.cell cs1
  replace cs2 := s5.cell cs2
  replace cs3 := s5.cell cs3
  replace Px : Hid (Pl u5 g5 0 n5 n5 (PW) (PH) (tab PW PH (extV S a b k ll tt))) := Px.out.next r5
  replace QT : Q w u5 := QT.trans s5
  obtain ⟨L5, hL5⟩ : ∃ L, v5.heap.size = L := ⟨_, rfl⟩
  rw [hL5] at Bx
  clear q5 r5 s5
  obtain ⟨tx0, tx1, tx2⟩ := id Bx.out
  obtain ⟨tp0, tp1, tp2⟩ := id Bp.out
  go_wp2_with fail
  clear hu5 hL5
  refine (NN _).mono ?_
  rintro e wn ⟨rfl, hn⟩
  rw [hn]
  clear hn wn
  go_wp2_with fail
  refine (pl_crop Px.out HE.out ((ll : Int) + (a : Int)) ((tt : Int) + (b : Int)) HE2.out.1 HE2.out.2).mono ?_
  rintro e v6 ⟨g6, n6, rfl, q6, _, _, Pm⟩
  clear tx0 tx1 tx2
  clear tp0 tp1 tp2
  obtain ⟨u6, hu6⟩ : ∃ u6, v6.alloc (.cells #[.int .i64 ((a : Nat) : Int), .int .i64 ((b : Nat) : Int), .slice (some ⟨g6, 0, none⟩) n6 n6] 24) = u6 := ⟨_, rfl⟩
  have r6 : Q v6 u6 := by rw [← hu6]; exact (Q.refl _).cells _ _
  have Bm : Hid (PBox u6 v6.heap.size (a) (b) (.slice (some ⟨g6, 0, none⟩) n6 n6)) := by rw [← hu6]; exact ⟨by simp [go_sem], by simp [go_sem], by simp [go_sem]⟩
  have s6 : Q u5 u6 := q6.trans r6
  replace Bp : Hid (PBox u6 w.heap.size a b (.slice (some ⟨g, o, none⟩) n cap)) := Bp.out.next s6
  replace Pp : Hid (Pl u6 g o n cap a b S) := Pp.out.next s6
  replace Bc : Hid (PBox u6 L1 (c) (d) (.slice (some ⟨g1, 0, none⟩) n1 n1)) := Bc.out.next s6
  replace Pc : Hid (Pl u6 g1 0 n1 n1 (c) (d) (crL a rx ry c d S)) := Pc.out.next s6
  replace Bk : Hid (PBox u6 L2 (a) (b) (.slice (some ⟨g2, 0, none⟩) n2 n2)) := Bk.out.next s6
  replace Pk : Hid (Pl u6 g2 0 n2 n2 (a) (b) (tab a b (pasV S a (crL a rx ry c d S) c d rx ry))) := Pk.out.next s6
  replace Bx : Hid (PBox u6 L5 (PW) (PH) (.slice (some ⟨g5, 0, none⟩) n5 n5)) := Bx.out.next s6
  replace Px : Hid (Pl u6 g5 0 n5 n5 (PW) (PH) (tab PW PH (extV S a b k ll tt))) := Px.out.next s6
  replace cr0 := s6.cell cr0
  replace cr1 := s6.cell cr1
  replace cr2 := s6.cell cr2
  replace cr3 := s6.cell cr3
  replace cs0 := s6.cell cs0
  replace cs1 := s6.cell cs1
  replace cs2 := s6.cell cs2
  replace cs3 := s6.cell cs3
  replace Pm : Hid (Pl u6 g6 0 n6 n6 (a) (b) (crL PW ll tt a b (tab PW PH (extV S a b k ll tt)))) := Pm.out.next r6
  replace QT : Q w u6 := QT.trans s6
  obtain ⟨L6, hL6⟩ : ∃ L, v6.heap.size = L := ⟨_, rfl⟩
  rw [hL6] at Bm
  clear q6 r6 s6
  obtain ⟨tm0, tm1, tm2⟩ := id Bm.out
  obtain ⟨tp0, tp1, tp2⟩ := id Bp.out
  go_wp2_with fail
  clear hu6 hL6
  refine (pl_same Pm.out Pp.out rfl rfl HEQ.out).mono ?_
  rintro e v7 ⟨rfl, q7⟩
  go_wp2_with fail
  go_ret
  exact ⟨rfl, QT.trans q7⟩
set_option maxHeartbeats 8000000 in
set_option maxRecDepth 100000 in
theorem pieces_10 (a b g o n cap : Nat) (S : List Nat) (rx ry c d : Nat) (x1 y1 X1 Y1 k l t : Int) (hr : Rct a b rx ry c d) (hx1 : x1 = (rx + c : Nat)) (hy1 : y1 = (ry + d : Nat)) (bt : -9223372036854775808 ≤ l ∧ l ≤ 9223372036854775807) (sx sy c2 d2 : Nat) (hr2 : Rct c d sx sy c2 d2) (hX1 : X1 = (sx + c2 : Nat)) (hY1 : Y1 = (sy + d2 : Nat)) (re : Int) (hre : extE k l t 1 2 a b = re) (hre0 : re ≠ 0) (w : World) (hp : Pl w g o n cap a b S) :
    Calls Try.prog 3 #[.agg #[.int .i64 (a : Int), .int .i64 (b : Int), .slice (some ⟨g, o, none⟩) n cap], .agg #[.int .i64 (rx : Int), .int .i64 (ry : Int), .int .i64 x1, .int .i64 y1], .agg #[.int .i64 (sx : Int), .int .i64 (sy : Int), .int .i64 X1, .int .i64 Y1], .int .i64 k, .int .i64 l, .int .i64 t] w fun e w' => e = .returned (.bool true) ∧ Q w w' := by
  obtain ⟨w1, hw1⟩ : ∃ w1, ((w.alloc (.cells #[.int .i64 (a : Int), .int .i64 (b : Int), .slice (some ⟨g, o, none⟩) n cap] 24)).alloc (.cells #[.int .i64 (rx : Int), .int .i64 (ry : Int), .int .i64 x1, .int .i64 y1] 26)).alloc (.cells #[.int .i64 (sx : Int), .int .i64 (sy : Int), .int .i64 X1, .int .i64 Y1] 26) = w1 := ⟨_, rfl⟩
  have QT : Q w w1 := by rw [← hw1]; exact (((Q.refl w).cells _ _).cells _ _).cells _ _
  have cr0 : w1.cell? ⟨w.heap.size + 1, 0, none⟩ = some (.int .i64 (rx : Int)) := by rw [← hw1]; simp [go_sem]
  have cr1 : w1.cell? ⟨w.heap.size + 1, 1, none⟩ = some (.int .i64 (ry : Int)) := by rw [← hw1]; simp [go_sem]
  have cr2 : w1.cell? ⟨w.heap.size + 1, 2, none⟩ = some (.int .i64 x1) := by rw [← hw1]; simp [go_sem]
  have cr3 : w1.cell? ⟨w.heap.size + 1, 3, none⟩ = some (.int .i64 y1) := by rw [← hw1]; simp [go_sem]
  have cs0 : w1.cell? ⟨w.heap.size + 1 + 1, 0, none⟩ = some (.int .i64 (sx : Int)) := by rw [← hw1]; simp [go_sem]
  have cs1 : w1.cell? ⟨w.heap.size + 1 + 1, 1, none⟩ = some (.int .i64 (sy : Int)) := by rw [← hw1]; simp [go_sem]
  have cs2 : w1.cell? ⟨w.heap.size + 1 + 1, 2, none⟩ = some (.int .i64 X1) := by rw [← hw1]; simp [go_sem]
  have cs3 : w1.cell? ⟨w.heap.size + 1 + 1, 3, none⟩ = some (.int .i64 Y1) := by rw [← hw1]; simp [go_sem]
  have K := known_any w1
  have Pp : Hid (Pl w1 g o n cap a b S) := hp.next QT
  have Bp : Hid (PBox w1 w.heap.size a b (.slice (some ⟨g, o, none⟩) n cap)) := by rw [← hw1]; exact ⟨by simp [go_sem], by simp [go_sem], by simp [go_sem]⟩
  have HLen : Hid (S.length = a * b) := hp.len
  have z0 : ((0 : Int) != 0) = false := by decide
  have z1 : ((0 : Int) == 0) = true := by decide
  have NN := fun w : World => num_any 0 w
  have HR : Hid (Rct a b rx ry c d) := hr
  have HX : Hid (x1 = (rx + c : Nat) ∧ y1 = (ry + d : Nat)) := ⟨hx1, hy1⟩
  have HR2 : Hid (Rct c d sx sy c2 d2) := hr2
  have HX2 : Hid (sx = sx ∧ sy = sy ∧ X1 = (sx + c2 : Nat) ∧ Y1 = (sy + d2 : Nat)) := ⟨rfl, rfl, hX1, hY1⟩
  have HX3 : Hid ((rx : Int) + X1 = (rx + sx + c2 : Nat) ∧ (ry : Int) + Y1 = (ry + sy + d2 : Nat)) := ⟨by omega, by omega⟩
  have bA := hp.size.a2
  have bB := hp.size.b2
  have b2 := hr.c2
  have b4 := hr.d2
  have b6 := hr2.c2
  have b8 := hr2.d2
  have e1 : (rx : Int) + (sx : Int) = ((rx + sx : Nat) : Int) := by omega
  have e2 : (ry : Int) + (sy : Int) = ((ry + sy : Nat) : Int) := by omega
  have wx : IntKind.i64.wrap ((rx : Int) + (sx : Int)) = ((rx + sx : Nat) : Int) := by rw [IntKind.wrap_i64]; omega
  have wy : IntKind.i64.wrap ((ry : Int) + (sy : Int)) = ((ry + sy : Nat) : Int) := by rw [IntKind.wrap_i64]; omega
  have wx1 : IntKind.i64.wrap ((rx : Int) + X1) = (rx : Int) + X1 := by rw [IntKind.wrap_i64]; omega
  have wy1 : IntKind.i64.wrap ((ry : Int) + Y1) = (ry : Int) + Y1 := by rw [IntKind.wrap_i64]; omega
  clear hr2 hX1 hY1 e1 e2
  have EX : Hid (∀ w : World, Pl w g o n cap a b S → Calls Try.prog 11 #[.agg #[.int .i64 (a : Int), .int .i64 (b : Int), .slice (some ⟨g, o, none⟩) n cap], .int .i64 k, .int .i64 l, .int .i64 t, .int .i64 1, .int .i64 2] w fun e w' => e = .returned (.tuple #[.agg #[.int .i64 0, .int .i64 0, .slice none 0 0], .int .i64 re]) ∧ Q w w') := fun w h => ext_fail h k l t 1 2 hre hre0
  have zre : (re != 0) = true := by rw [bne_iff_ne]; exact hre0
  clear hre hre0
  clear hp hr hx1 hy1
  go_enter Try.func3, Try.ntmps3
  go_wp2_with fail
  clear hw1
  refine K.mono ?_
  rintro e w2 ⟨rfl, k2⟩
  replace Bp : Hid (PBox w2 w.heap.size a b (.slice (some ⟨g, o, none⟩) n cap)) := Bp.out.next k2
  replace Pp : Hid (Pl w2 g o n cap a b S) := Pp.out.next k2
  replace cr0 := k2.cell cr0
  replace cr1 := k2.cell cr1
  replace cr2 := k2.cell cr2
  replace cr3 := k2.cell cr3
  replace cs0 := k2.cell cs0
  replace cs1 := k2.cell cs1
  replace cs2 := k2.cell cs2
  replace cs3 := k2.cell cs3
  replace QT := QT.trans k2
  clear K k2
  obtain ⟨tp0, tp1, tp2⟩ := id Bp.out
  go_wp2_with fail
  refine (pl_crop Pp.out HR.out x1 y1 HX.out.1 HX.out.2).mono ?_
  rintro e v1 ⟨g1, n1, rfl, q1, _, _, Pc⟩
  clear tp0 tp1 tp2
  obtain ⟨u1, hu1⟩ : ∃ u1, v1.alloc (.cells #[.int .i64 ((c : Nat) : Int), .int .i64 ((d : Nat) : Int), .slice (some ⟨g1, 0, none⟩) n1 n1] 24) = u1 := ⟨_, rfl⟩
  have r1 : Q v1 u1 := by rw [← hu1]; exact (Q.refl _).cells _ _
  have Bc : Hid (PBox u1 v1.heap.size (c) (d) (.slice (some ⟨g1, 0, none⟩) n1 n1)) := by rw [← hu1]; exact ⟨by simp [go_sem], by simp [go_sem], by simp [go_sem]⟩
  have s1 : Q w2 u1 := q1.trans r1
  replace Bp : Hid (PBox u1 w.heap.size a b (.slice (some ⟨g, o, none⟩) n cap)) := Bp.out.next s1
  replace Pp : Hid (Pl u1 g o n cap a b S) := Pp.out.next s1
  replace cr0 := s1.cell cr0
  replace cr1 := s1.cell cr1
  replace cr2 := s1.cell cr2
  replace cr3 := s1.cell cr3
  replace cs0 := s1.cell cs0
  replace cs1 := s1.cell cs1
  replace cs2 := s1.cell cs2
  replace cs3 := s1.cell cs3
  replace Pc : Hid (Pl u1 g1 0 n1 n1 (c) (d) (crL a rx ry c d S)) := Pc.out.next r1
  replace QT : Q w u1 := QT.trans s1
  obtain ⟨L1, hL1⟩ : ∃ L, v1.heap.size = L := ⟨_, rfl⟩
  rw [hL1] at Bc
  clear q1 r1 s1
  obtain ⟨tp0, tp1, tp2⟩ := id Bp.out
  obtain ⟨tc0, tc1, tc2⟩ := id Bc.out
  go_wp2_with fail
  clear hu1 hL1
  refine (NN _).mono ?_
  rintro e wn ⟨rfl, hn⟩
  rw [hn]
  clear hn wn
  go_wp2_with fail
  refine (pl_paste Pp.out Pc.out (rx : Int) (ry : Int)).mono ?_
  rintro e v2 ⟨g2, n2, rfl, q2, _, _, Pk⟩
  clear tp0 tp1 tp2
  clear tc0 tc1 tc2
  obtain ⟨u2, hu2⟩ : ∃ u2, v2.alloc (.cells #[.int .i64 ((a : Nat) : Int), .int .i64 ((b : Nat) : Int), .slice (some ⟨g2, 0, none⟩) n2 n2] 24) = u2 := ⟨_, rfl⟩
  have r2 : Q v2 u2 := by rw [← hu2]; exact (Q.refl _).cells _ _
  have Bk : Hid (PBox u2 v2.heap.size (a) (b) (.slice (some ⟨g2, 0, none⟩) n2 n2)) := by rw [← hu2]; exact ⟨by simp [go_sem], by simp [go_sem], by simp [go_sem]⟩
  have s2 : Q u1 u2 := q2.trans r2
  replace Bp : Hid (PBox u2 w.heap.size a b (.slice (some ⟨g, o, none⟩) n cap)) := Bp.out.next s2
  replace Pp : Hid (Pl u2 g o n cap a b S) := Pp.out.next s2
  replace Bc : Hid (PBox u2 L1 (c) (d) (.slice (some ⟨g1, 0, none⟩) n1 n1)) := Bc.out.next s2
  replace Pc : Hid (Pl u2 g1 0 n1 n1 (c) (d) (crL a rx ry c d S)) := Pc.out.next s2
  replace cr0 := s2.cell cr0
  replace cr1 := s2.cell cr1
  replace cr2 := s2.cell cr2
  replace cr3 := s2.cell cr3
  replace cs0 := s2.cell cs0
  replace cs1 := s2.cell cs1
  replace cs2 := s2.cell cs2
  replace cs3 := s2.cell cs3
  replace Pk : Hid (Pl u2 g2 0 n2 n2 (a) (b) (tab a b (pasV S a (crL a rx ry c d S) c d rx ry))) := Pk.out.next r2
  replace QT : Q w u2 := QT.trans s2
  obtain ⟨L2, hL2⟩ : ∃ L, v2.heap.size = L := ⟨_, rfl⟩
  rw [hL2] at Bk
  clear q2 r2 s2
  obtain ⟨tk0, tk1, tk2⟩ := id Bk.out
  obtain ⟨tp0, tp1, tp2⟩ := id Bp.out
  go_wp2_with fail
  clear hu2 hL2
  refine (pl_same Pk.out Pp.out rfl rfl (paste_back HLen.out HR.out)).mono ?_
  rintro e v3 ⟨rfl, q3⟩
  clear tk0 tk1 tk2
  clear tp0 tp1 tp2
  replace Bp : Hid (PBox v3 w.heap.size a b (.slice (some ⟨g, o, none⟩) n cap)) := Bp.out.next q3
  replace Pp : Hid (Pl v3 g o n cap a b S) := Pp.out.next q3
  replace Bc : Hid (PBox v3 L1 (c) (d) (.slice (some ⟨g1, 0, none⟩) n1 n1)) := Bc.out.next q3
  replace Pc : Hid (Pl v3 g1 0 n1 n1 (c) (d) (crL a rx ry c d S)) := Pc.out.next q3
  replace Bk : Hid (PBox v3 L2 (a) (b) (.slice (some ⟨g2, 0, none⟩) n2 n2)) := Bk.out.next q3
  replace Pk : Hid (Pl v3 g2 0 n2 n2 (a) (b) (tab a b (pasV S a (crL a rx ry c d S) c d rx ry))) := Pk.out.next q3
  replace cr0 := q3.cell cr0
  replace cr1 := q3.cell cr1
  replace cr2 := q3.cell cr2
  replace cr3 := q3.cell cr3
  replace cs0 := q3.cell cs0
  replace cs1 := q3.cell cs1
  replace cs2 := q3.cell cs2
  replace cs3 := q3.cell cs3
  replace QT := QT.trans q3
  clear q3
  obtain ⟨tc0, tc1, tc2⟩ := id Bc.out
  go_wp2_with fail
  refine (pl_crop Pc.out HR2.out X1 Y1 HX2.out.2.2.1 HX2.out.2.2.2).mono ?_
  rintro e v4 ⟨g4, n4, rfl, q4, _, _, Pd⟩
  clear tc0 tc1 tc2
  obtain ⟨u4, hu4⟩ : ∃ u4, v4.alloc (.cells #[.int .i64 ((c2 : Nat) : Int), .int .i64 ((d2 : Nat) : Int), .slice (some ⟨g4, 0, none⟩) n4 n4] 24) = u4 := ⟨_, rfl⟩
  have r4 : Q v4 u4 := by rw [← hu4]; exact (Q.refl _).cells _ _
  have Bd : Hid (PBox u4 v4.heap.size (c2) (d2) (.slice (some ⟨g4, 0, none⟩) n4 n4)) := by rw [← hu4]; exact ⟨by simp [go_sem], by simp [go_sem], by simp [go_sem]⟩
  have s4 : Q v3 u4 := q4.trans r4
  replace Bp : Hid (PBox u4 w.heap.size a b (.slice (some ⟨g, o, none⟩) n cap)) := Bp.out.next s4
  replace Pp : Hid (Pl u4 g o n cap a b S) := Pp.out.next s4
  replace Bc : Hid (PBox u4 L1 (c) (d) (.slice (some ⟨g1, 0, none⟩) n1 n1)) := Bc.out.next s4
  replace Pc : Hid (Pl u4 g1 0 n1 n1 (c) (d) (crL a rx ry c d S)) := Pc.out.next s4
  replace Bk : Hid (PBox u4 L2 (a) (b) (.slice (some ⟨g2, 0, none⟩) n2 n2)) := Bk.out.next s4
  replace Pk : Hid (Pl u4 g2 0 n2 n2 (a) (b) (tab a b (pasV S a (crL a rx ry c d S) c d rx ry))) := Pk.out.next s4
  replace cr0 := s4.cell cr0
  replace cr1 := s4.cell cr1
  replace cr2 := s4.cell cr2
  replace cr3 := s4.cell cr3
  replace cs0 := s4.cell cs0
  replace cs1 := s4.cell cs1
  replace cs2 := s4.cell cs2
  replace cs3 := s4.cell cs3
  replace Pd : Hid (Pl u4 g4 0 n4 n4 (c2) (d2) (crL c sx sy c2 d2 (crL a rx ry c d S))) := Pd.out.next r4
  replace QT : Q w u4 := QT.trans s4
  obtain ⟨L4, hL4⟩ : ∃ L, v4.heap.size = L := ⟨_, rfl⟩
  rw [hL4] at Bd
  clear q4 r4 s4
  obtain ⟨tp0, tp1, tp2⟩ := id Bp.out
  go_wp2_with fail
  clear hu4 hL4
  refine (NN _).mono ?_
  rintro e wn ⟨rfl, hn⟩
  rw [hn]
  clear hn wn
  go_wp2_with fail
  refine (pl_crop Pp.out (rct_rct HR.out HR2.out) ((rx : Int) + X1) ((ry : Int) + Y1) HX3.out.1 HX3.out.2).mono ?_
  rintro e v5 ⟨g5, n5, rfl, q5, _, _, Pone⟩
  clear tp0 tp1 tp2
  obtain ⟨u5, hu5⟩ : ∃ u5, v5.alloc (.cells #[.int .i64 ((c2 : Nat) : Int), .int .i64 ((d2 : Nat) : Int), .slice (some ⟨g5, 0, none⟩) n5 n5] 24) = u5 := ⟨_, rfl⟩
  have r5 : Q v5 u5 := by rw [← hu5]; exact (Q.refl _).cells _ _
  have Bone : Hid (PBox u5 v5.heap.size (c2) (d2) (.slice (some ⟨g5, 0, none⟩) n5 n5)) := by rw [← hu5]; exact ⟨by simp [go_sem], by simp [go_sem], by simp [go_sem]⟩
  have s5 : Q u4 u5 := q5.trans r5
  replace Bp : Hid (PBox u5 w.heap.size a b (.slice (some ⟨g, o, none⟩) n cap)) := Bp.out.next s5
  replace Pp : Hid (Pl u5 g o n cap a b S) := Pp.out.next s5
  replace Bc : Hid (PBox u5 L1 (c) (d) (.slice (some ⟨g1, 0, none⟩) n1 n1)) := Bc.out.next s5
  replace Pc : Hid (Pl u5 g1 0 n1 n1 (c) (d) (crL a rx ry c d S)) := Pc.out.next s5
  replace Bk : Hid (PBox u5 L2 (a) (b) (.slice (some ⟨g2, 0, none⟩) n2 n2)) := Bk.out.next s5
  replace Pk : Hid (Pl u5 g2 0 n2 n2 (a) (b) (tab a b (pasV S a (crL a rx ry c d S) c d rx ry))) := Pk.out.next s5
  replace Bd : Hid (PBox u5 L4 (c2) (d2) (.slice (some ⟨g4, 0, none⟩) n4 n4)) := Bd.out.next s5
  replace Pd : Hid (Pl u5 g4 0 n4 n4 (c2) (d2) (crL c sx sy c2 d2 (crL a rx ry c d S))) := Pd.out.next s5
  replace cr0 := s5.cell cr0
  replace cr1 := s5.cell cr1
  replace cr2 := s5.cell cr2
  replace cr3 := s5.cell cr3
  replace cs0 := s5.cell cs0
  replace cs1 := s5.cell cs1
  replace cs2 := s5.cell cs2
  replace cs3 := s5.cell cs3
  replace Pone : Hid (Pl u5 g5 0 n5 n5 (c2) (d2) (crL a (rx + sx) (ry + sy) c2 d2 S)) := Pone.out.next r5
  replace QT : Q w u5 := QT.trans s5
  obtain ⟨L5, hL5⟩ : ∃ L, v5.heap.size = L := ⟨_, rfl⟩
  rw [hL5] at Bone
  clear q5 r5 s5
  obtain ⟨tone0, tone1, tone2⟩ := id Bone.out
  obtain ⟨td0, td1, td2⟩ := id Bd.out
  go_wp2_with fail
  clear hu5 hL5
  refine (pl_same Pone.out Pd.out rfl rfl (crop_crop HR.out HR2.out)).mono ?_
  rintro e v6 ⟨rfl, q6⟩
  clear tone0 tone1 tone2
  clear td0 td1 td2
  replace Bp : Hid (PBox v6 w.heap.size a b (.slice (some ⟨g, o, none⟩) n cap)) := Bp.out.next q6
  replace Pp : Hid (Pl v6 g o n cap a b S) := Pp.out.next q6
  replace Bc : Hid (PBox v6 L1 (c) (d) (.slice (some ⟨g1, 0, none⟩) n1 n1)) := Bc.out.next q6
  replace Pc : Hid (Pl v6 g1 0 n1 n1 (c) (d) (crL a rx ry c d S)) := Pc.out.next q6
  replace Bk : Hid (PBox v6 L2 (a) (b) (.slice (some ⟨g2, 0, none⟩) n2 n2)) := Bk.out.next q6
  replace Pk : Hid (Pl v6 g2 0 n2 n2 (a) (b) (tab a b (pasV S a (crL a rx ry c d S) c d rx ry))) := Pk.out.next q6
  replace Bd : Hid (PBox v6 L4 (c2) (d2) (.slice (some ⟨g4, 0, none⟩) n4 n4)) := Bd.out.next q6
  replace Pd : Hid (Pl v6 g4 0 n4 n4 (c2) (d2) (crL c sx sy c2 d2 (crL a rx ry c d S))) := Pd.out.next q6
  replace Bone : Hid (PBox v6 L5 (c2) (d2) (.slice (some ⟨g5, 0, none⟩) n5 n5)) := Bone.out.next q6
  replace Pone : Hid (Pl v6 g5 0 n5 n5 (c2) (d2) (crL a (rx + sx) (ry + sy) c2 d2 S)) := Pone.out.next q6
  replace cr0 := q6.cell cr0
  replace cr1 := q6.cell cr1
  replace cr2 := q6.cell cr2
  replace cr3 := q6.cell cr3
  replace cs0 := q6.cell cs0
  replace cs1 := q6.cell cs1
  replace cs2 := q6.cell cs2
  replace cs3 := q6.cell cs3
  replace QT := QT.trans q6
  clear q6
  obtain ⟨tp0, tp1, tp2⟩ := id Bp.out
  go_wp2_with fail
  refine (EX.out _ Pp.out).mono ?_
  rintro e v7 ⟨rfl, q7⟩
  clear tp0 tp1 tp2
  have r7 : Q v7 (v7.alloc (.cells #[.int .i64 0, .int .i64 0, .slice none 0 0] 24)) := (Q.refl _).cells _ _
  have dd7 : (v7.alloc (.cells #[.int .i64 0, .int .i64 0, .slice none 0 0] 24)).cell? ⟨v7.heap.size, 2, none⟩ = some (.slice none 0 0) := by simp [go_sem]
  have s7 : Q v6 (v7.alloc (.cells #[.int .i64 0, .int .i64 0, .slice none 0 0] 24)) := q7.trans r7
  replace Bp : Hid (PBox (v7.alloc (.cells #[.int .i64 0, .int .i64 0, .slice none 0 0] 24)) w.heap.size a b (.slice (some ⟨g, o, none⟩) n cap)) := Bp.out.next s7
  replace Pp : Hid (Pl (v7.alloc (.cells #[.int .i64 0, .int .i64 0, .slice none 0 0] 24)) g o n cap a b S) := Pp.out.next s7
  replace Bc : Hid (PBox (v7.alloc (.cells #[.int .i64 0, .int .i64 0, .slice none 0 0] 24)) L1 (c) (d) (.slice (some ⟨g1, 0, none⟩) n1 n1)) := Bc.out.next s7
  replace Pc : Hid (Pl (v7.alloc (.cells #[.int .i64 0, .int .i64 0, .slice none 0 0] 24)) g1 0 n1 n1 (c) (d) (crL a rx ry c d S)) := Pc.out.next s7
  replace Bk : Hid (PBox (v7.alloc (.cells #[.int .i64 0, .int .i64 0, .slice none 0 0] 24)) L2 (a) (b) (.slice (some ⟨g2, 0, none⟩) n2 n2)) := Bk.out.next s7
  replace Pk : Hid (Pl (v7.alloc (.cells #[.int .i64 0, .int .i64 0, .slice none 0 0] 24)) g2 0 n2 n2 (a) (b) (tab a b (pasV S a (crL a rx ry c d S) c d rx ry))) := Pk.out.next s7
  replace Bd : Hid (PBox (v7.alloc (.cells #[.int .i64 0, .int .i64 0, .slice none 0 0] 24)) L4 (c2) (d2) (.slice (some ⟨g4, 0, none⟩) n4 n4)) := Bd.out.next s7
  replace Pd : Hid (Pl (v7.alloc (.cells #[.int .i64 0, .int .i64 0, .slice none 0 0] 24)) g4 0 n4 n4 (c2) (d2) (crL c sx sy c2 d2 (crL a rx ry c d S))) := Pd.out.next s7
  replace Bone : Hid (PBox (v7.alloc (.cells #[.int .i64 0, .int .i64 0, .slice none 0 0] 24)) L5 (c2) (d2) (.slice (some ⟨g5, 0, none⟩) n5 n5)) := Bone.out.next s7
  replace Pone : Hid (Pl (v7.alloc (.cells #[.int .i64 0, .int .i64 0, .slice none 0 0] 24)) g5 0 n5 n5 (c2) (d2) (crL a (rx + sx) (ry + sy) c2 d2 S)) := Pone.out.next s7
  replace cr0 := s7.cell cr0
  replace cr1 := s7.cell cr1
  replace cr2 := s7.cell cr2
  replace cr3 := s7.cell cr3
  replace cs0 := s7.cell cs0
  replace cs1 := s7.cell cs1
  replace cs2 := s7.cell cs2
  replace cs3 := s7.cell cs3
  replace QT := QT.trans s7
  clear q7 r7 s7
  go_wp2_with fail
  generalize (v7.alloc (.cells #[.int .i64 0, .int .i64 0, .slice none 0 0] 24)) = u7 at dd7 QT Bp Pp Bc Pc Bk Pk Bd Pd Bone Pone cr0 cr1 cr2 cr3 cs0 cs1 cs2 cs3  ⊢
  refine (num_any re _).mono ?_
  rintro e wn ⟨rfl, hn⟩
  rw [hn]
  clear hn wn
  go_wp2_with fail
  go_ret
  exact ⟨rfl, QT⟩
set_option maxHeartbeats 8000000 in
set_option maxRecDepth 100000 in
theorem pieces_11 (a b g o n cap : Nat) (S : List Nat) (rx ry c d : Nat) (x1 y1 X1 Y1 k : Int) (hr : Rct a b rx ry c d) (hx1 : x1 = (rx + c : Nat)) (hy1 : y1 = (ry + d : Nat)) (sx sy c2 d2 : Nat) (hr2 : Rct c d sx sy c2 d2) (hX1 : X1 = (sx + c2 : Nat)) (hY1 : Y1 = (sy + d2 : Nat)) (ll tt : Nat) (hk : k = 1 ∨ k = 2 ∨ k = 3) (hll : ll ≤ 1024) (htt : tt ≤ 1024) (hsz : Size (ll + a + 1) (tt + b + 2)) (w : World) (hp : Pl w g o n cap a b S) :
    Calls Try.prog 3 #[.agg #[.int .i64 (a : Int), .int .i64 (b : Int), .slice (some ⟨g, o, none⟩) n cap], .agg #[.int .i64 (rx : Int), .int .i64 (ry : Int), .int .i64 x1, .int .i64 y1], .agg #[.int .i64 (sx : Int), .int .i64 (sy : Int), .int .i64 X1, .int .i64 Y1], .int .i64 k, .int .i64 (ll : Int), .int .i64 (tt : Int)] w fun e w' => e = .returned (.bool true) ∧ Q w w' := by
  obtain ⟨w1, hw1⟩ : ∃ w1, ((w.alloc (.cells #[.int .i64 (a : Int), .int .i64 (b : Int), .slice (some ⟨g, o, none⟩) n cap] 24)).alloc (.cells #[.int .i64 (rx : Int), .int .i64 (ry : Int), .int .i64 x1, .int .i64 y1] 26)).alloc (.cells #[.int .i64 (sx : Int), .int .i64 (sy : Int), .int .i64 X1, .int .i64 Y1] 26) = w1 := ⟨_, rfl⟩
  have QT : Q w w1 := by rw [← hw1]; exact (((Q.refl w).cells _ _).cells _ _).cells _ _
  have cr0 : w1.cell? ⟨w.heap.size + 1, 0, none⟩ = some (.int .i64 (rx : Int)) := by rw [← hw1]; simp [go_sem]
  have cr1 : w1.cell? ⟨w.heap.size + 1, 1, none⟩ = some (.int .i64 (ry : Int)) := by rw [← hw1]; simp [go_sem]
  have cr2 : w1.cell? ⟨w.heap.size + 1, 2, none⟩ = some (.int .i64 x1) := by rw [← hw1]; simp [go_sem]
  have cr3 : w1.cell? ⟨w.heap.size + 1, 3, none⟩ = some (.int .i64 y1) := by rw [← hw1]; simp [go_sem]
  have cs0 : w1.cell? ⟨w.heap.size + 1 + 1, 0, none⟩ = some (.int .i64 (sx : Int)) := by rw [← hw1]; simp [go_sem]
  have cs1 : w1.cell? ⟨w.heap.size + 1 + 1, 1, none⟩ = some (.int .i64 (sy : Int)) := by rw [← hw1]; simp [go_sem]
  have cs2 : w1.cell? ⟨w.heap.size + 1 + 1, 2, none⟩ = some (.int .i64 X1) := by rw [← hw1]; simp [go_sem]
  have cs3 : w1.cell? ⟨w.heap.size + 1 + 1, 3, none⟩ = some (.int .i64 Y1) := by rw [← hw1]; simp [go_sem]
  have K := known_any w1
  have Pp : Hid (Pl w1 g o n cap a b S) := hp.next QT
  have Bp : Hid (PBox w1 w.heap.size a b (.slice (some ⟨g, o, none⟩) n cap)) := by rw [← hw1]; exact ⟨by simp [go_sem], by simp [go_sem], by simp [go_sem]⟩
  have HLen : Hid (S.length = a * b) := hp.len
  have z0 : ((0 : Int) != 0) = false := by decide
  have z1 : ((0 : Int) == 0) = true := by decide
  have NN := fun w : World => num_any 0 w
  have HR : Hid (Rct a b rx ry c d) := hr
  have HX : Hid (x1 = (rx + c : Nat) ∧ y1 = (ry + d : Nat)) := ⟨hx1, hy1⟩
  have HR2 : Hid (Rct c d sx sy c2 d2) := hr2
  have HX2 : Hid (sx = sx ∧ sy = sy ∧ X1 = (sx + c2 : Nat) ∧ Y1 = (sy + d2 : Nat)) := ⟨rfl, rfl, hX1, hY1⟩
  have HX3 : Hid ((rx : Int) + X1 = (rx + sx + c2 : Nat) ∧ (ry : Int) + Y1 = (ry + sy + d2 : Nat)) := ⟨by omega, by omega⟩
  have bA := hp.size.a2
  have bB := hp.size.b2
  have b2 := hr.c2
  have b4 := hr.d2
  have b6 := hr2.c2
  have b8 := hr2.d2
  have e1 : (rx : Int) + (sx : Int) = ((rx + sx : Nat) : Int) := by omega
  have e2 : (ry : Int) + (sy : Int) = ((ry + sy : Nat) : Int) := by omega
  have wx : IntKind.i64.wrap ((rx : Int) + (sx : Int)) = ((rx + sx : Nat) : Int) := by rw [IntKind.wrap_i64]; omega
  have wy : IntKind.i64.wrap ((ry : Int) + (sy : Int)) = ((ry + sy : Nat) : Int) := by rw [IntKind.wrap_i64]; omega
  have wx1 : IntKind.i64.wrap ((rx : Int) + X1) = (rx : Int) + X1 := by rw [IntKind.wrap_i64]; omega
  have wy1 : IntKind.i64.wrap ((ry : Int) + Y1) = (ry : Int) + Y1 := by rw [IntKind.wrap_i64]; omega
  clear hr2 hX1 hY1 e1 e2
  obtain ⟨PW, hPW⟩ : ∃ PW, ll + a + 1 = PW := ⟨_, rfl⟩
  obtain ⟨PH, hPH⟩ : ∃ PH, tt + b + 2 = PH := ⟨_, rfl⟩
  have EXG : Hid (∀ w : World, Pl w g o n cap a b S → Calls Try.prog 11 #[.agg #[.int .i64 (a : Int), .int .i64 (b : Int), .slice (some ⟨g, o, none⟩) n cap], .int .i64 k, .int .i64 (ll : Int), .int .i64 (tt : Int), .int .i64 1, .int .i64 2] w (Mk w PW PH (tab PW PH (extV S a b k ll tt)))) := by
    intro w h
    have := pl_ext h k ll tt 1 2 hk hll htt (by decide) (by decide) hsz
    rw [hPW, hPH] at this
    exact this
  have HEQ : Hid (crL PW ll tt a b (tab PW PH (extV S a b k ll tt)) = S) := by
    have := crop_ext (l := ll) (t := tt) (r := 1) (s := 2) hp.len hk
    rw [hPW, hPH] at this
    exact this
  have HE : Hid (Rct PW PH ll tt a b) := ⟨hp.size.a1, by omega, hp.size.b1, by omega⟩
  have HE2 : Hid ((ll : Int) + (a : Int) = (ll + a : Nat) ∧ (tt : Int) + (b : Int) = (tt + b : Nat)) := ⟨by omega, by omega⟩
  have bA := hp.size.a2
  have bB := hp.size.b2
  clear hk hsz hPW hPH
  clear hp hr hx1 hy1
  go_enter Try.func3, Try.ntmps3
  go_wp2_with fail
  clear hw1
  refine K.mono ?_
  rintro e w2 ⟨rfl, k2⟩
  replace Bp : Hid (PBox w2 w.heap.size a b (.slice (some ⟨g, o, none⟩) n cap)) := Bp.out.next k2
  replace Pp : Hid (Pl w2 g o n cap a b S) := Pp.out.next k2
  replace cr0 := k2.cell cr0
  replace cr1 := k2.cell cr1
  replace cr2 := k2.cell cr2
  replace cr3 := k2.cell cr3
  replace cs0 := k2.cell cs0
  replace cs1 := k2.cell cs1
  replace cs2 := k2.cell cs2
  replace cs3 := k2.cell cs3
  replace QT := QT.trans k2
  clear K k2
  obtain ⟨tp0, tp1, tp2⟩ := id Bp.out
  go_wp2_with fail
  refine (pl_crop Pp.out HR.out x1 y1 HX.out.1 HX.out.2).mono ?_
  rintro e v1 ⟨g1, n1, rfl, q1, _, _, Pc⟩
  clear tp0 tp1 tp2
  obtain ⟨u1, hu1⟩ : ∃ u1, v1.alloc (.cells #[.int .i64 ((c : Nat) : Int), .int .i64 ((d : Nat) : Int), .slice (some ⟨g1, 0, none⟩) n1 n1] 24) = u1 := ⟨_, rfl⟩
  have r1 : Q v1 u1 := by rw [← hu1]; exact (Q.refl _).cells _ _
  have Bc : Hid (PBox u1 v1.heap.size (c) (d) (.slice (some ⟨g1, 0, none⟩) n1 n1)) := by rw [← hu1]; exact ⟨by simp [go_sem], by simp [go_sem], by simp [go_sem]⟩
  have s1 : Q w2 u1 := q1.trans r1
  replace Bp : Hid (PBox u1 w.heap.size a b (.slice (some ⟨g, o, none⟩) n cap)) := Bp.out.next s1
  replace Pp : Hid (Pl u1 g o n cap a b S) := Pp.out.next s1
  replace cr0 := s1.cell cr0
  replace cr1 := s1.cell cr1
  replace cr2 := s1.cell cr2
  replace cr3 := s1.cell cr3
  replace cs0 := s1.cell cs0
  replace cs1 := s1.cell cs1
  replace cs2 := s1.cell cs2
  replace cs3 := s1.cell cs3
  replace Pc : Hid (Pl u1 g1 0 n1 n1 (c) (d) (crL a rx ry c d S)) := Pc.out.next r1
  replace QT : Q w u1 := QT.trans s1
  obtain ⟨L1, hL1⟩ : ∃ L, v1.heap.size = L := ⟨_, rfl⟩
  rw [hL1] at Bc
  clear q1 r1 s1
  obtain ⟨tp0, tp1, tp2⟩ := id Bp.out
  obtain ⟨tc0, tc1, tc2⟩ := id Bc.out
  go_wp2_with fail
  clear hu1 hL1
  refine (NN _).mono ?_
  rintro e wn ⟨rfl, hn⟩
  rw [hn]
  clear hn wn
  go_wp2_with fail
  refine (pl_paste Pp.out Pc.out (rx : Int) (ry : Int)).mono ?_
  rintro e v2 ⟨g2, n2, rfl, q2, _, _, Pk⟩
  clear tp0 tp1 tp2
  clear tc0 tc1 tc2
  obtain ⟨u2, hu2⟩ : ∃ u2, v2.alloc (.cells #[.int .i64 ((a : Nat) : Int), .int .i64 ((b : Nat) : Int), .slice (some ⟨g2, 0, none⟩) n2 n2] 24) = u2 := ⟨_, rfl⟩
  have r2 : Q v2 u2 := by rw [← hu2]; exact (Q.refl _).cells _ _
  have Bk : Hid (PBox u2 v2.heap.size (a) (b) (.slice (some ⟨g2, 0, none⟩) n2 n2)) := by rw [← hu2]; exact ⟨by simp [go_sem], by simp [go_sem], by simp [go_sem]⟩
  have s2 : Q u1 u2 := q2.trans r2
  replace Bp : Hid (PBox u2 w.heap.size a b (.slice (some ⟨g, o, none⟩) n cap)) := Bp.out.next s2
  replace Pp : Hid (Pl u2 g o n cap a b S) := Pp.out.next s2
  replace Bc : Hid (PBox u2 L1 (c) (d) (.slice (some ⟨g1, 0, none⟩) n1 n1)) := Bc.out.next s2
  replace Pc : Hid (Pl u2 g1 0 n1 n1 (c) (d) (crL a rx ry c d S)) := Pc.out.next s2
  replace cr0 := s2.cell cr0
  replace cr1 := s2.cell cr1
  replace cr2 := s2.cell cr2
  replace cr3 := s2.cell cr3
  replace cs0 := s2.cell cs0
  replace cs1 := s2.cell cs1
  replace cs2 := s2.cell cs2
  replace cs3 := s2.cell cs3
  replace Pk : Hid (Pl u2 g2 0 n2 n2 (a) (b) (tab a b (pasV S a (crL a rx ry c d S) c d rx ry))) := Pk.out.next r2
  replace QT : Q w u2 := QT.trans s2
  obtain ⟨L2, hL2⟩ : ∃ L, v2.heap.size = L := ⟨_, rfl⟩
  rw [hL2] at Bk
  clear q2 r2 s2
  obtain ⟨tk0, tk1, tk2⟩ := id Bk.out
  obtain ⟨tp0, tp1, tp2⟩ := id Bp.out
  go_wp2_with fail
  clear hu2 hL2
  refine (pl_same Pk.out Pp.out rfl rfl (paste_back HLen.out HR.out)).mono ?_
  rintro e v3 ⟨rfl, q3⟩
  clear tk0 tk1 tk2
  clear tp0 tp1 tp2
  replace Bp : Hid (PBox v3 w.heap.size a b (.slice (some ⟨g, o, none⟩) n cap)) := Bp.out.next q3
  replace Pp : Hid (Pl v3 g o n cap a b S) := Pp.out.next q3
  replace Bc : Hid (PBox v3 L1 (c) (d) (.slice (some ⟨g1, 0, none⟩) n1 n1)) := Bc.out.next q3
  replace Pc : Hid (Pl v3 g1 0 n1 n1 (c) (d) (crL a rx ry c d S)) := Pc.out.next q3
  replace Bk : Hid (PBox v3 L2 (a) (b) (.slice (some ⟨g2, 0, none⟩) n2 n2)) := Bk.out.next q3
  replace Pk : Hid (Pl v3 g2 0 n2 n2 (a) (b) (tab a b (pasV S a (crL a rx ry c d S) c d rx ry))) := Pk.out.next q3
  replace cr0 := q3.cell cr0
  replace cr1 := q3.cell cr1
  replace cr2 := q3.cell cr2
  replace cr3 := q3.cell cr3
  replace cs0 := q3.cell cs0
  replace cs1 := q3.cell cs1
  replace cs2 := q3.cell cs2
  replace cs3 := q3.cell cs3
  replace QT := QT.trans q3
  clear q3
  obtain ⟨tc0, tc1, tc2⟩ := id Bc.out
  go_wp2_with fail
  refine (pl_crop Pc.out HR2.out X1 Y1 HX2.out.2.2.1 HX2.out.2.2.2).mono ?_
  rintro e v4 ⟨g4, n4, rfl, q4, _, _, Pd⟩
  clear tc0 tc1 tc2
  obtain ⟨u4, hu4⟩ : ∃ u4, v4.alloc (.cells #[.int .i64 ((c2 : Nat) : Int), .int .i64 ((d2 : Nat) : Int), .slice (some ⟨g4, 0, none⟩) n4 n4] 24) = u4 := ⟨_, rfl⟩
  have r4 : Q v4 u4 := by rw [← hu4]; exact (Q.refl _).cells _ _
  have Bd : Hid (PBox u4 v4.heap.size (c2) (d2) (.slice (some ⟨g4, 0, none⟩) n4 n4)) := by rw [← hu4]; exact ⟨by simp [go_sem], by simp [go_sem], by simp [go_sem]⟩
  have s4 : Q v3 u4 := q4.trans r4
  replace Bp : Hid (PBox u4 w.heap.size a b (.slice (some ⟨g, o, none⟩) n cap)) := Bp.out.next s4
  replace Pp : Hid (Pl u4 g o n cap a b S) := Pp.out.next s4
  replace Bc : Hid (PBox u4 L1 (c) (d) (.slice (some ⟨g1, 0, none⟩) n1 n1)) := Bc.out.next s4
  replace Pc : Hid (Pl u4 g1 0 n1 n1 (c) (d) (crL a rx ry c d S)) := Pc.out.next s4
  replace Bk : Hid (PBox u4 L2 (a) (b) (.slice (some ⟨g2, 0, none⟩) n2 n2)) := Bk.out.next s4
  replace Pk : Hid (Pl u4 g2 0 n2 n2 (a) (b) (tab a b (pasV S a (crL a rx ry c d S) c d rx ry))) := Pk.out.next s4
  replace cr0 := s4.cell cr0
  replace cr1 := s4.cell cr1
  replace cr2 := s4.cell cr2
  replace cr3 := s4.cell cr3
  replace cs0 := s4.cell cs0
  replace cs1 := s4.cell cs1
  replace cs2 := s4.cell cs2
  replace cs3 := s4.cell cs3
  replace Pd : Hid (Pl u4 g4 0 n4 n4 (c2) (d2) (crL c sx sy c2 d2 (crL a rx ry c d S))) := Pd.out.next r4
  replace QT : Q w u4 := QT.trans s4
  obtain ⟨L4, hL4⟩ : ∃ L, v4.heap.size = L := ⟨_, rfl⟩
  rw [hL4] at Bd
  clear q4 r4 s4
  obtain ⟨tp0, tp1, tp2⟩ := id Bp.out
  go_wp2_with fail
  clear hu4 hL4
  refine (NN _).mono ?_
  rintro e wn ⟨rfl, hn⟩
  rw [hn]
  clear hn wn
  go_wp2_with fail
  refine (pl_crop Pp.out (rct_rct HR.out HR2.out) ((rx : Int) + X1) ((ry : Int) + Y1) HX3.out.1 HX3.out.2).mono ?_
  rintro e v5 ⟨g5, n5, rfl, q5, _, _, Pone⟩
  clear tp0 tp1 tp2
  obtain ⟨u5, hu5⟩ : ∃ u5, v5.alloc (.cells #[.int .i64 ((c2 : Nat) : Int), .int .i64 ((d2 : Nat) : Int), .slice (some ⟨g5, 0, none⟩) n5 n5] 24) = u5 := ⟨_, rfl⟩
  have r5 : Q v5 u5 := by rw [← hu5]; exact (Q.refl _).cells _ _
  have Bone : Hid (PBox u5 v5.heap.size (c2) (d2) (.slice (some ⟨g5, 0, none⟩) n5 n5)) := by rw [← hu5]; exact ⟨by simp [go_sem], by simp [go_sem], by simp [go_sem]⟩
  have s5 : Q u4 u5 := q5.trans r5
  replace Bp : Hid (PBox u5 w.heap.size a b (.slice (some ⟨g, o, none⟩) n cap)) := Bp.out.next s5
  replace Pp : Hid (Pl u5 g o n cap a b S) := Pp.out.next s5
  replace Bc : Hid (PBox u5 L1 (c) (d) (.slice (some ⟨g1, 0, none⟩) n1 n1)) := Bc.out.next s5
  replace Pc : Hid (Pl u5 g1 0 n1 n1 (c) (d) (crL a rx ry c d S)) := Pc.out.next s5
  replace Bk : Hid (PBox u5 L2 (a) (b) (.slice (some ⟨g2, 0, none⟩) n2 n2)) := Bk.out.next s5
  replace Pk : Hid (Pl u5 g2 0 n2 n2 (a) (b) (tab a b (pasV S a (crL a rx ry c d S) c d rx ry))) := Pk.out.next s5
  replace Bd : Hid (PBox u5 L4 (c2) (d2) (.slice (some ⟨g4, 0, none⟩) n4 n4)) := Bd.out.next s5
  replace Pd : Hid (Pl u5 g4 0 n4 n4 (c2) (d2) (crL c sx sy c2 d2 (crL a rx ry c d S))) := Pd.out.next s5
  replace cr0 := s5.cell cr0
  replace cr1 := s5.cell cr1
  replace cr2 := s5.cell cr2
  replace cr3 := s5.cell cr3
  replace cs0 := s5.cell cs0
  replace cs1 := s5.cell cs1
  replace cs2 := s5.cell cs2
  replace cs3 := s5.cell cs3
  replace Pone : Hid (Pl u5 g5 0 n5 n5 (c2) (d2) (crL a (rx + sx) (ry + sy) c2 d2 S)) := Pone.out.next r5
  replace QT : Q w u5 := QT.trans s5
  obtain ⟨L5, hL5⟩ : ∃ L, v5.heap.size = L := ⟨_, rfl⟩
  rw [hL5] at Bone
  clear q5 r5 s5
  obtain ⟨tone0, tone1, tone2⟩ := id Bone.out
  obtain ⟨td0, td1, td2⟩ := id Bd.out
  go_wp2_with fail
  clear hu5 hL5
  refine (pl_same Pone.out Pd.out rfl rfl (crop_crop HR.out HR2.out)).mono ?_
  rintro e v6 ⟨rfl, q6⟩
  clear tone0 tone1 tone2
  clear td0 td1 td2
  replace Bp : Hid (PBox v6 w.heap.size a b (.slice (some ⟨g, o, none⟩) n cap)) := Bp.out.next q6
  replace Pp : Hid (Pl v6 g o n cap a b S) := Pp.out.next q6
  replace Bc : Hid (PBox v6 L1 (c) (d) (.slice (some ⟨g1, 0, none⟩) n1 n1)) := Bc.out.next q6
  replace Pc : Hid (Pl v6 g1 0 n1 n1 (c) (d) (crL a rx ry c d S)) := Pc.out.next q6
  replace Bk : Hid (PBox v6 L2 (a) (b) (.slice (some ⟨g2, 0, none⟩) n2 n2)) := Bk.out.next q6
  replace Pk : Hid (Pl v6 g2 0 n2 n2 (a) (b) (tab a b (pasV S a (crL a rx ry c d S) c d rx ry))) := Pk.out.next q6
  replace Bd : Hid (PBox v6 L4 (c2) (d2) (.slice (some ⟨g4, 0, none⟩) n4 n4)) := Bd.out.next q6
  replace Pd : Hid (Pl v6 g4 0 n4 n4 (c2) (d2) (crL c sx sy c2 d2 (crL a rx ry c d S))) := Pd.out.next q6
  replace Bone : Hid (PBox v6 L5 (c2) (d2) (.slice (some ⟨g5, 0, none⟩) n5 n5)) := Bone.out.next q6
  replace Pone : Hid (Pl v6 g5 0 n5 n5 (c2) (d2) (crL a (rx + sx) (ry + sy) c2 d2 S)) := Pone.out.next q6
  replace cr0 := q6.cell cr0
  replace cr1 := q6.cell cr1
  replace cr2 := q6.cell cr2
  replace cr3 := q6.cell cr3
  replace cs0 := q6.cell cs0
  replace cs1 := q6.cell cs1
  replace cs2 := q6.cell cs2
  replace cs3 := q6.cell cs3
  replace QT := QT.trans q6
  clear q6
  obtain ⟨tp0, tp1, tp2⟩ := id Bp.out
  go_wp2_with fail
  refine (EXG.out _ Pp.out).mono ?_
  rintro e v7 ⟨g7, n7, rfl, q7, _, _, Px⟩
  clear tp0 tp1 tp2
  obtain ⟨u7, hu7⟩ : ∃ u7, v7.alloc (.cells #[.int .i64 ((PW : Nat) : Int), .int .i64 ((PH : Nat) : Int), .slice (some ⟨g7, 0, none⟩) n7 n7] 24) = u7 := ⟨_, rfl⟩
  have r7 : Q v7 u7 := by rw [← hu7]; exact (Q.refl _).cells _ _
  have Bx : Hid (PBox u7 v7.heap.size (PW) (PH) (.slice (some ⟨g7, 0, none⟩) n7 n7)) := by rw [← hu7]; exact ⟨by simp [go_sem], by simp [go_sem], by simp [go_sem]⟩
  have s7 : Q v6 u7 := q7.trans r7
  replace Bp : Hid (PBox u7 w.heap.size a b (.slice (some ⟨g, o, none⟩) n cap)) := Bp.out.next s7
  replace Pp : Hid (Pl u7 g o n cap a b S) := Pp.out.next s7
  replace Bc : Hid (PBox u7 L1 (c) (d) (.slice (some ⟨g1, 0, none⟩) n1 n1)) := Bc.out.next s7
  replace Pc : Hid (Pl u7 g1 0 n1 n1 (c) (d) (crL a rx ry c d S)) := Pc.out.next s7
  replace Bk : Hid (PBox u7 L2 (a) (b) (.slice (some ⟨g2, 0, none⟩) n2 n2)) := Bk.out.next s7
  replace Pk : Hid (Pl u7 g2 0 n2 n2 (a) (b) (tab a b (pasV S a (crL a rx ry c d S) c d rx ry))) := Pk.out.next s7
  replace Bd : Hid (PBox u7 L4 (c2) (d2) (.slice (some ⟨g4, 0, none⟩) n4 n4)) := Bd.out.next s7
  replace Pd : Hid (Pl u7 g4 0 n4 n4 (c2) (d2) (crL c sx sy c2 d2 (crL a rx ry c d S))) := Pd.out.next s7
  replace Bone : Hid (PBox u7 L5 (c2) (d2) (.slice (some ⟨g5, 0, none⟩) n5 n5)) := Bone.out.next s7
  replace Pone : Hid (Pl u7 g5 0 n5 n5 (c2) (d2) (crL a (rx + sx) (ry + sy) c2 d2 S)) := Pone.out.next s7
  replace cr0 := s7.cell cr0
  replace cr1 := s7.cell cr1
  replace cr2 := s7.cell cr2
  replace cr3 := s7.cell cr3
  replace cs0 := s7.cell cs0
  replace cs1 := s7.cell cs1
  replace cs2 := s7.cell cs2
  replace cs3 := s7.cell cs3
  replace Px : Hid (Pl u7 g7 0 n7 n7 (PW) (PH) (tab PW PH (extV S a b k ll tt))) := Px.out.next r7
  replace QT : Q w u7 := QT.trans s7
  obtain ⟨L7, hL7⟩ : ∃ L, v7.heap.size = L := ⟨_, rfl⟩
  rw [hL7] at Bx
  clear q7 r7 s7
  obtain ⟨tx0, tx1, tx2⟩ := id Bx.out
  obtain ⟨tp0, tp1, tp2⟩ := id Bp.out
  go_wp2_with fail
  clear hu7 hL7
  refine (NN _).mono ?_
  rintro e wn ⟨rfl, hn⟩
  rw [hn]
  clear hn wn
  go_wp2_with fail
  refine (pl_crop Px.out HE.out ((ll : Int) + (a : Int)) ((tt : Int) + (b : Int)) HE2.out.1 HE2.out.2).mono ?_
  rintro e v8 ⟨g8, n8, rfl, q8, _, _, Pm⟩
  clear tx0 tx1 tx2
  clear tp0 tp1 tp2
  obtain ⟨u8, hu8⟩ : ∃ u8, v8.alloc (.cells #[.int .i64 ((a : Nat) : Int), .int .i64 ((b : Nat) : Int), .slice (some ⟨g8, 0, none⟩) n8 n8] 24) = u8 := ⟨_, rfl⟩
  have r8 : Q v8 u8 := by rw [← hu8]; exact (Q.refl _).cells _ _
  have Bm : Hid (PBox u8 v8.heap.size (a) (b) (.slice (some ⟨g8, 0, none⟩) n8 n8)) := by rw [← hu8]; exact ⟨by simp [go_sem], by simp [go_sem], by simp [go_sem]⟩
  have s8 : Q u7 u8 := q8.trans r8
  replace Bp : Hid (PBox u8 w.heap.size a b (.slice (some ⟨g, o, none⟩) n cap)) := Bp.out.next s8
  replace Pp : Hid (Pl u8 g o n cap a b S) := Pp.out.next s8
  replace Bc : Hid (PBox u8 L1 (c) (d) (.slice (some ⟨g1, 0, none⟩) n1 n1)) := Bc.out.next s8
  replace Pc : Hid (Pl u8 g1 0 n1 n1 (c) (d) (crL a rx ry c d S)) := Pc.out.next s8
  replace Bk : Hid (PBox u8 L2 (a) (b) (.slice (some ⟨g2, 0, none⟩) n2 n2)) := Bk.out.next s8
  replace Pk : Hid (Pl u8 g2 0 n2 n2 (a) (b) (tab a b (pasV S a (crL a rx ry c d S) c d rx ry))) := Pk.out.next s8
  replace Bd : Hid (PBox u8 L4 (c2) (d2) (.slice (some ⟨g4, 0, none⟩) n4 n4)) := Bd.out.next s8
  replace Pd : Hid (Pl u8 g4 0 n4 n4 (c2) (d2) (crL c sx sy c2 d2 (crL a rx ry c d S))) := Pd.out.next s8
  replace Bone : Hid (PBox u8 L5 (c2) (d2) (.slice (some ⟨g5, 0, none⟩) n5 n5)) := Bone.out.next s8
  replace Pone : Hid (Pl u8 g5 0 n5 n5 (c2) (d2) (crL a (rx + sx) (ry + sy) c2 d2 S)) := Pone.out.next s8
  replace Bx : Hid (PBox u8 L7 (PW) (PH) (.slice (some ⟨g7, 0, none⟩) n7 n7)) := Bx.out.next s8
  replace Px : Hid (Pl u8 g7 0 n7 n7 (PW) (PH) (tab PW PH (extV S a b k ll tt))) := Px.out.next s8
  replace cr0 := s8.cell cr0
  replace cr1 := s8.cell cr1
  replace cr2 := s8.cell cr2
  replace cr3 := s8.cell cr3
  replace cs0 := s8.cell cs0
  replace cs1 := s8.cell cs1
  replace cs2 := s8.cell cs2
  replace cs3 := s8.cell cs3
  replace Pm : Hid (Pl u8 g8 0 n8 n8 (a) (b) (crL PW ll tt a b (tab PW PH (extV S a b k ll tt)))) := Pm.out.next r8
  replace QT : Q w u8 := QT.trans s8
  obtain ⟨L8, hL8⟩ : ∃ L, v8.heap.size = L := ⟨_, rfl⟩
  rw [hL8] at Bm
  clear q8 r8 s8
  obtain ⟨tm0, tm1, tm2⟩ := id Bm.out
  obtain ⟨tp0, tp1, tp2⟩ := id Bp.out
  go_wp2_with fail
  clear hu8 hL8
  refine (pl_same Pm.out Pp.out rfl rfl HEQ.out).mono ?_
  rintro e v9 ⟨rfl, q9⟩
  go_wp2_with fail
  go_ret
  exact ⟨rfl, QT.trans q9⟩
end Go.Proofs.Ytkgfohodahkmmab
