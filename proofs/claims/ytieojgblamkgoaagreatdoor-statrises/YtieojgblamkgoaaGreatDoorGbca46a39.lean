/- Planes turned: the program's Turn. -/
import Derived.Test.YtieojgblamkgoaaGreatDoorGd35664b6
import Derived.Deep.RegionWith
import Derived.Test.YtieojgblamkgoaaGreatDoorGc2adee94
import Derived.Test.YtieojgblamkgoaaGreatDoorG2d4e46c5
import Derived.Test.YtieojgblamkgoaaGreatDoorGba4db751
import Derived.Test.YtieojgblamkgoaaGreatDoorG4d3d0d9b
import Derived.Test.YtieojgblamkgoaaGreatDoorG6dfefa34
import Derived.Test.YtieojgblamkgoaaGreatDoorGedd9c870
namespace Go.Proofs.YtieojgblamkgoaaGreatDoor
open Go.RowKit
end Go.Proofs.YtieojgblamkgoaaGreatDoor
/- Planes made greater: the program's Extend; Get. -/
namespace Go.Proofs.YtieojgblamkgoaaGreatDoor
open Go.RowKit
set_option linter.unusedVariables false
set_option linter.unusedSimpArgs false

end Go.Proofs.YtieojgblamkgoaaGreatDoor
/- Planes held against one another: the document's Equal. -/
namespace Go.Proofs.YtieojgblamkgoaaGreatDoor
open Go.RowKit
set_option linter.unusedVariables false
set_option linter.unusedSimpArgs false

end Go.Proofs.YtieojgblamkgoaaGreatDoor
/- The chapter's examples. -/
namespace Go.Proofs.YtieojgblamkgoaaGreatDoor
open Go.RowKit
end Go.Proofs.YtieojgblamkgoaaGreatDoor
/- The chapter's examples, all of them. -/
namespace Go.Proofs.YtieojgblamkgoaaGreatDoor
open Go.RowKit
set_option linter.unusedVariables false
set_option linter.unusedSimpArgs false

end Go.Proofs.YtieojgblamkgoaaGreatDoor
/- Errors as numbers; answers held against the document's. -/
namespace Go.Proofs.YtieojgblamkgoaaGreatDoor
open Go.RowKit
end Go.Proofs.YtieojgblamkgoaaGreatDoor
/- What is said of borders without the document's answer. -/
namespace Go.Proofs.YtieojgblamkgoaaGreatDoor
open Go.RowKit
set_option linter.unusedVariables false
set_option linter.unusedSimpArgs false

end Go.Proofs.YtieojgblamkgoaaGreatDoor
/- Planes, whole: what is done with them, as functions of lists. -/
namespace Go.Proofs.YtieojgblamkgoaaGreatDoor
open Go.RowKit
set_option linter.unusedVariables false
set_option linter.unusedSimpArgs false

/-- A plane that may be, lying somewhere. -/
structure Pl (w : World) (g o n cap a b : Nat) (S : List Nat) : Prop where
  size : Size a b
  len : S.length = a * b
  eq : n = S.length
  room : n ≤ cap
  us : UIs w g o S
theorem Pl.next {w w' : World} {g o n cap a b : Nat} {S : List Nat} (h : Pl w g o n cap a b S) (q : Q w w') : Pl w' g o n cap a b S := ⟨h.size, h.len, h.eq, h.room, h.us.next q⟩
theorem Pl.usl {w : World} {g o n cap a b : Nat} {S : List Nat} (h : Pl w g o n cap a b S) : USl w (.slice (some ⟨g, o, none⟩) n cap) S := by
  have e := h.eq
  subst e
  exact h.us.usl h.room
/-- A plane that was made. -/
def Mk (w : World) (a b : Nat) (S : List Nat) (e : Ending) (w' : World) : Prop := ∃ g n, e = .returned (.tuple #[.agg #[.int .i64 (a : Int), .int .i64 (b : Int), .slice (some ⟨g, 0, none⟩) n n], .int .i64 0]) ∧ Q w w' ∧ w.heap.size ≤ g ∧ (∀ j, w'.frozen? ⟨g, j, none⟩ = false) ∧ Hid (Pl w' g 0 n n a b S)
theorem Made.mk {w : World} {a b : Nat} {S : List Nat} {e : Ending} {w' : World} (h : Made w a b S e w') (hs : Size a b) (hl : S.length = a * b) : Mk w a b S e w' := by
  obtain ⟨g, rfl, ho⟩ := h
  exact ⟨g, a * b, rfl, ho.q, ho.new, ho.free, ⟨hs, hl, hl.symm, Nat.le_refl _, ho.cells⟩⟩
def crL (a x0 y0 c d : Nat) (S : List Nat) : List Nat := tab c d fun x y => smp S a (x0 + x) (y0 + y)
theorem pl_crop {w : World} {g o n cap a b : Nat} {S : List Nat} (h : Pl w g o n cap a b S) {x0 y0 c d : Nat} (hr : Rct a b x0 y0 c d) (XX YY : Int) (hXX : XX = (x0 + c : Nat)) (hYY : YY = (y0 + d : Nat)) :
    Calls Tryz.prog 66 #[.agg #[.int .i64 (a : Int), .int .i64 (b : Int), .slice (some ⟨g, o, none⟩) n cap], .agg #[.int .i64 (x0 : Int), .int .i64 (y0 : Int), .int .i64 XX, .int .i64 YY]] w (Mk w c d (crL a x0 y0 c d S)) := by
  have e := h.eq
  subst e
  exact (crop_good h.size h.len g o cap hr XX YY hXX hYY w h.us).mono fun e w' hm => hm.mk (hr.size h.size) (tab_length _ _ _)
end Go.Proofs.YtieojgblamkgoaaGreatDoor
/- Pieces of planes, pasted, cropped, extended. -/
namespace Go.Proofs.YtieojgblamkgoaaGreatDoor
open Go.RowKit
set_option linter.unusedVariables false
set_option linter.unusedSimpArgs false

end Go.Proofs.YtieojgblamkgoaaGreatDoor
/- stat: Add. -/
namespace Go.Proofs.YtieojgblamkgoaaGreatDoor
open Go.RowKit
set_option linter.unusedVariables false
set_option linter.unusedSimpArgs false

theorem mem_of_getD {L : List Nat} (h : ∀ i, L.getD i 0 < 4294967296) : ∀ s ∈ L, s < 4294967296 := by
  intro s hs
  obtain ⟨i, hi, rfl⟩ := List.getElem_of_mem hs
  have := h i
  rw [List.getD_eq_getElem?_getD, List.getElem?_eq_getElem hi] at this
  exact this
theorem usl_fb {w w' : World} {A : Nat} {u : Value} {L : List Nat} (h : USl w u L) (f : Fb A w w') (hA : ∀ g o c, u = .slice (some ⟨g, o, none⟩) L.length c → g ≠ A) : USl w' u L := by
  rcases h with ⟨g, o, c, e, hc, hI⟩ | hx
  · exact Or.inl ⟨g, o, c, e, hc, fun i hi => f.cell (hI i hi) (hA g o c e)⟩
  · exact Or.inr hx
set_option maxHeartbeats 4000000 in
set_option maxRecDepth 100000 in
theorem sadd_good (P A H b kc : Nat) (L : List Nat) (w : World) (h : StAt w P A H b kc L) {g o n cap pa pb : Nat} {S : List Nat} (hp : Pl w g o n cap pa pb S) {x0 y0 c d : Nat} (hr : Rct pa pb x0 y0 c d) (XX YY : Int) (hXX : XX = (x0 + c : Nat)) (hYY : YY = (y0 + d : Nat))
    (hCb : ∀ i, (crL pa x0 y0 c d S).getD i 0 < 4294967296) (hL : L.length ≤ 1000000) :
    Calls Tryz.prog 35 #[.pointer (some ⟨P, 0, none⟩), .agg #[.int .i64 (pa : Int), .int .i64 (pb : Int), .slice (some ⟨g, o, none⟩) n cap], .agg #[.int .i64 (x0 : Int), .int .i64 (y0 : Int), .int .i64 XX, .int .i64 YY]] w fun e w' => e = .returned (.int .i64 0) ∧ StAt w' P A H b kc (L ++ crL pa x0 y0 c d S) ∧ Fr w w' (stB P A H) := by
  obtain ⟨w1, hw1⟩ : ∃ w1, (w.alloc (.cells #[.int .i64 (pa : Int), .int .i64 (pb : Int), .slice (some ⟨g, o, none⟩) n cap] 26)).alloc (.cells #[.int .i64 (x0 : Int), .int .i64 (y0 : Int), .int .i64 XX, .int .i64 YY] 28) = w1 := ⟨_, rfl⟩
  have q1 : Q w w1 := by rw [← hw1]; exact ((Q.refl w).cells _ _).cells _ _
  have z00 : w1.cell? ⟨w.heap.size, 0, none⟩ = some (.int .i64 (pa : Int)) := by rw [← hw1]; simp [go_sem]
  have z01 : w1.cell? ⟨w.heap.size, 1, none⟩ = some (.int .i64 (pb : Int)) := by rw [← hw1]; simp [go_sem]
  have z02 : w1.cell? ⟨w.heap.size, 2, none⟩ = some (.slice (some ⟨g, o, none⟩) n cap) := by rw [← hw1]; simp [go_sem]
  have z10 : w1.cell? ⟨w.heap.size + 1, 0, none⟩ = some (.int .i64 (x0 : Int)) := by rw [← hw1]; simp [go_sem]
  have z11 : w1.cell? ⟨w.heap.size + 1, 1, none⟩ = some (.int .i64 (y0 : Int)) := by rw [← hw1]; simp [go_sem]
  have z12 : w1.cell? ⟨w.heap.size + 1, 2, none⟩ = some (.int .i64 XX) := by rw [← hw1]; simp [go_sem]
  have z13 : w1.cell? ⟨w.heap.size + 1, 3, none⟩ = some (.int .i64 YY) := by rw [← hw1]; simp [go_sem]
  have K := pl_crop (hp.next q1) hr XX YY hXX hYY
  have HQ1 : Hid (Q w w1) := q1
  have HS : Hid (StAt w P A H b kc L) := h
  have HC0 : Hid (1 ≤ b ∧ b ≤ 12 ∧ 2 ^ b ≤ kc ∧ P ≠ A ∧ P ≠ H ∧ A ≠ H) := ⟨h.b1, h.b2, h.cap, h.pa, h.ph, h.ah⟩
  have hCl : (crL pa x0 y0 c d S).length ≤ 65536 := by have := (hr.size hp.size).ab; unfold crL; rw [tab_length]; omega
  generalize crL pa x0 y0 c d S = C at *
  clear h hp hr hXX hYY
  go_enter Tryz.func35, Tryz.ntmps35
  go_wp2_with fail
  refine K.mono ?_
  rintro e w2 ⟨g2, n2, rfl, q2, l2, f2, hP2⟩
  clear hw1 z00 z01 z02 z10 z11 z12 z13 K
  have hn2 := hP2.out.eq
  subst hn2
  obtain ⟨w3, hw3⟩ : ∃ w3, w2.alloc (.cells #[.int .i64 (c : Int), .int .i64 (d : Int), .slice (some ⟨g2, 0, none⟩) C.length C.length] 26) = w3 := ⟨_, rfl⟩
  have q3 : Q w2 w3 := by rw [← hw3]; exact (Q.refl w2).cells _ _
  have y2 : w3.cell? ⟨w2.heap.size, 2, none⟩ = some (.slice (some ⟨g2, 0, none⟩) C.length C.length) := by rw [← hw3]; simp [go_sem]
  obtain ⟨B, hB⟩ : ∃ B, w2.heap.size = B := ⟨_, rfl⟩
  rw [hB] at y2
  have hsz : w.heap.size ≤ w1.heap.size := q1.1.size
  have hsz2 : w1.heap.size ≤ w2.heap.size := q2.1.size
  have hBw : w.heap.size ≤ B := by omega
  have hgw : w.heap.size ≤ g2 := by omega
  have hU : USl w3 (.slice (some ⟨g2, 0, none⟩) C.length C.length) C := hP2.out.usl.next q3
  have HQ3 : Hid (Q w w3) := (q1.trans q2).trans q3
  have hlt := HS.out.lt
  have hneB : B ≠ P ∧ B ≠ A ∧ B ≠ H ∧ g2 ≠ P ∧ g2 ≠ A ∧ g2 ≠ H := by omega
  clear q1 q2 q3 hP2 f2 l2 HQ1 hsz hsz2
  go_wp2_with fail
  clear hw3 hB
  refine (wnan_any _ C _ hU hCb hCl).mono ?_
  rintro e w4 ⟨u, rfl, hu, hug, q4⟩
  obtain ⟨ua, uc, rfl⟩ := hu.form
  have hsz4 : w.heap.size ≤ w3.heap.size := HQ3.out.1.size
  have HUG : Hid (∀ g o c, Value.slice ua (numL C).length uc = .slice (some ⟨g, o, none⟩) (numL C).length c → g ≠ P ∧ g ≠ A ∧ g ≠ H) := fun g o c e => by have := hug g o c e; omega
  clear hug hsz4
  have y2 := q4.cell y2
  have hU4 := hU.next q4
  have HQ4 : Hid (Q w w4) := HQ3.out.trans q4
  have HS4 : Hid (StAt w4 P A H b kc L) := HS.out.next HQ4.out
  clear hU q4 HQ3 HS
  have p0 := HS4.out.p0
  have dp := qw_cell p0
  have dy := qw_cell y2
  have n0 := qw_some w4
  go_wp2_with fail
  refine wp_lastR 6 rfl _ rfl (by kernel_rfl) (by kernel_rfl) (by kernel_rfl) ?_
  simp only [List.take_succ_cons, List.take_zero]
  repeat (first | go_big_quiet_step (fail) | quiet_step (fail))
  refine wpQuiet_nil ?_
  intro nn K hK
  clear dp dy n0 p0
  have y2 := nn.q.cell y2
  have hU5 := hU4.next nn.q
  have hu5 := hu.next nn.q
  have HQ5 : Hid (Q w nn.x) := HQ4.out.trans nn.q
  have HS5 : Hid (StAt nn.x P A H b kc L) := HS4.out.next nn.q
  clear hU4 hu HQ4 HS4
  obtain ⟨N, hacc⟩ := HS5.out.acc
  generalize nn.x = w5 at *
  go_wp2_with fail
  refine (acc_add _ C L A L.length N _ hacc hU5 (fun g' o' cap' _ e => by injection e with e; injection e with e; injection e with e; omega) hCb (by omega)).mono ?_
  rintro e w6 ⟨rfl, hA6, f6⟩
  have y2 := f6.cell y2 hneB.2.1
  have hU6 : USl w6 (.slice (some ⟨g2, 0, none⟩) C.length C.length) C := usl_fb hU5 f6 (fun g' o' c' e => by injection e with e; injection e with e; injection e with e; omega)
  have HF6 : Hid (Fr w w6 (stB P A H)) := (HQ5.out.fr _).trans ⟨f6.os, f6.tape, f6.output, f6.size, fun x hx hr => f6.block x hx hr.2.1, f6.frz⟩
  have hT6 : VR w6 H (2 ^ b) (fun j => .int .i64 ((clsC b L j : Nat) : Int)) := ⟨fun i hi => f6.cell (HS5.out.tal.cell i hi) (fun e => HS5.out.ah e.symm), fun j => (f6.frz _).trans (HS5.out.tal.free j)⟩
  have p1 := f6.cell HS5.out.p1 HS5.out.pa
  have p2 := f6.cell HS5.out.p2 HS5.out.pa
  have p3 := f6.cell HS5.out.p3 HS5.out.pa
  have p4 := f6.cell HS5.out.p4 HS5.out.pa
  have p5 := f6.cell HS5.out.p5 HS5.out.pa
  have p0 := f6.cell HS5.out.p0 HS5.out.pa
  have HZ6 : Hid (∀ j, w6.frozen? ⟨P, j, none⟩ = false) := fun j => (f6.frz _).trans (HS5.out.fz j)
  have hu6 : USl w6 (.slice ua (numL C).length uc) (numL C) := usl_fb hu5 f6 (fun g' o' c' e => (HUG.out g' o' c' e).2.1)
  clear hU5 hu5 f6 HQ5 hacc HS5
  have dp1 := qw_cell p1
  have dp2 := qw_cell p2
  have dy := qw_cell y2
  have n0 := qw_some w6
  go_wp2_with fail
  refine wp_lastR 6 rfl _ rfl (by kernel_rfl) (by kernel_rfl) (by kernel_rfl) ?_
  simp only [List.take_succ_cons, List.take_zero]
  repeat (first | go_big_quiet_step (fail) | quiet_step (fail))
  refine wpQuiet_nil ?_
  intro n2 K2 hK2
  clear dp1 dp2 dy n0
  have y2 := n2.q.cell y2
  have p0 := n2.q.cell p0
  have p1 := n2.q.cell p1
  have p2 := n2.q.cell p2
  have p3 := n2.q.cell p3
  have p4 := n2.q.cell p4
  have p5 := n2.q.cell p5
  have hU7 := hU6.next n2.q
  have hu7 := hu6.next n2.q
  have hT7 := hT6.next n2.q
  have HA7 : Hid (AccAt n2.x A (L ++ C)) := by
    obtain ⟨N', h'⟩ := hA6
    refine AccAt.next ⟨N', ?_⟩ n2.q
    rw [List.length_append]; exact h'
  have HZ7 : Hid (∀ j, n2.x.frozen? ⟨P, j, none⟩ = false) := fun j => by rw [n2.q.2]; exact HZ6.out j
  have HF7 : Hid (Fr w n2.x (stB P A H)) := HF6.out.trans (n2.q.fr _)
  clear hU6 hu6 hT6 hA6 HZ6 HF6
  generalize n2.x = w7 at *
  have hcl : ∀ j, clsC b L j ≤ 35184372087808 := fun j => by have := clsC_le b L j; omega
  have KT := tadd_any b H kc (clsC b L) _ C w7 HC0.out.1 HC0.out.2.1 hT7 HC0.out.2.2.1 hcl hU7 (fun g' o' c' _ e => by injection e with e; injection e with e; injection e with e; omega) hCb hCl
  unfold talV at KT
  clear hT7 hcl
  go_wp2_with fail
  refine KT.mono ?_
  rintro e w8 ⟨rfl, hT8, f8⟩
  clear KT
  have hPH := HC0.out.2.2.2.2.1
  have y2 := f8.cell y2 hneB.2.2.1
  have p0 := f8.cell p0 hPH
  have p1 := f8.cell p1 hPH
  have p2 := f8.cell p2 hPH
  have p3 := f8.cell p3 hPH
  have p4 := f8.cell p4 hPH
  have p5 := f8.cell p5 hPH
  have hu8 : USl w8 (.slice ua (numL C).length uc) (numL C) := usl_fb hu7 f8 (fun g' o' c' e => (HUG.out g' o' c' e).2.2)
  have HA8 : Hid (AccAt w8 A (L ++ C)) := HA7.out.far f8 HC0.out.2.2.2.2.2
  have HZ8 : Hid (∀ j, w8.frozen? ⟨P, j, none⟩ = false) := fun j => (f8.frz _).trans (HZ7.out j)
  have HF8 : Hid (Fr w w8 (stB P A H)) := HF7.out.trans ⟨f8.os, f8.tape, f8.output, f8.size, fun x hx hr => f8.block x hx hr.2.2, f8.frz⟩
  have HT8 : Hid (VR w8 H (2 ^ b) (fun j => .int .i64 ((clsC b (L ++ C) j : Nat) : Int))) := hT8.congr fun j _ => by rw [clsC_append]
  clear hU7 hu7 HA7 HZ7 HF7 f8 hT8 hPH
  have hNb : ∀ i, (numL C).getD i 0 < 4294967296 := fun i => by
    rcases Nat.lt_or_ge i (numL C).length with k | k
    · rw [List.getD_eq_getElem?_getD, List.getElem?_eq_getElem k]
      exact mem_of_getD hCb _ (numL_mem (List.getElem_mem k)).1
    · rw [List.getD_eq_getElem?_getD, List.getElem?_eq_none k]; decide
  have hNl : (numL C).length ≤ 65536 := Nat.le_trans (numL_len C) hCl
  have HSp : Hid (∀ n : QW w8, Calls Tryz.prog 70 #[.slice ua (numL C).length uc] n.x fun e w' => e = .returned (.agg #[.int .u32 (lowK C : Nat), .int .u32 (topK C : Nat)]) ∧ Q n.x w') := fun n => spanof_any _ (numL C) n.x (hu8.next n.q) hNb hNl
  have HWi : Hid (∀ n : QW w8, Calls Tryz.prog 46 #[.agg #[.int .u32 (lowK L : Nat), .int .u32 (topK L : Nat)], .agg #[.int .u32 (lowK C : Nat), .int .u32 (topK C : Nat)]] n.x fun e w' => e = .returned (.agg #[.int .u32 (lowK (L ++ C) : Nat), .int .u32 (topK (L ++ C) : Nat)]) ∧ Q n.x w') := fun n => by
    have := with_any (lowK L) (topK L) (lowK C) (topK C) n.x
    rw [← lowK_append, ← topK_append] at this
    exact this
  have dp3 := qw_cell p3
  have dp4 := qw_cell p4
  have n0 := qw_some w8
  clear hNb hNl
  go_wp2_with fail
  refine wp_lastR 10 rfl _ rfl (by kernel_rfl) (by kernel_rfl) (by kernel_rfl) ?_
  simp only [List.take_succ_cons, List.take_zero]
  repeat (first | go_big_quiet_step (first | (go_at_call 70; exact calls_qw (HSp.out _)) | (go_at_call 46; exact calls_qw (HWi.out _))) | quiet_step (first | (go_at_call 70; exact calls_qw (HSp.out _)) | (go_at_call 46; exact calls_qw (HWi.out _))))
  refine wpQuiet_nil ?_
  intro n3 K3 hK3
  clear dp3 dp4 n0 HSp HWi
  have y2 := n3.q.cell y2
  have p0 := n3.q.cell p0
  have p1 := n3.q.cell p1
  have p2 := n3.q.cell p2
  have p3 := n3.q.cell p3
  have p4 := n3.q.cell p4
  have p5 := n3.q.cell p5
  have HA9 : Hid (AccAt n3.x A (L ++ C)) := HA8.out.next n3.q
  have HZ9 : ∀ j, n3.x.frozen? ⟨P, j, none⟩ = false := fun j => by rw [n3.q.2]; exact HZ8.out j
  have HF9 : Hid (Fr w n3.x (stB P A H)) := HF8.out.trans (n3.q.fr _)
  have HT9 : Hid (VR n3.x H (2 ^ b) (fun j => .int .i64 ((clsC b (L ++ C) j : Nat) : Int))) := HT8.out.next n3.q
  clear HA8 HZ8 HF8 HT8 hu8
  generalize n3.x = w9 at *
  go_wp2_with fail
  have hnP : ∀ x, stB P A H x → P ≠ x := fun x hx e => hx.1 e.symm
  have hPA := HC0.out.2.2.2.1
  have hPH := HC0.out.2.2.2.2.1
  obtain ⟨y, hy⟩ : ∃ y, (w9.setCell ⟨P, 3, none⟩ (.int .u32 (lowK (L ++ C) : Nat))).setCell ⟨P, 4, none⟩ (.int .u32 (topK (L ++ C) : Nat)) = y := ⟨_, rfl⟩
  have cE : ∀ Bk j v, Bk ≠ P → w9.cell? ⟨Bk, j, none⟩ = some v → y.cell? ⟨Bk, j, none⟩ = some v := fun Bk j v hne hc => by
    rw [← hy, World.cell?_setCell_other _ _ _ _ (fun e => by injection e with e; omega), World.cell?_setCell_other _ _ _ _ (fun e => by injection e with e; omega)]; exact hc
  have cP : ∀ j v, j ≠ 3 → j ≠ 4 → w9.cell? ⟨P, j, none⟩ = some v → y.cell? ⟨P, j, none⟩ = some v := fun j v h3 h4 hc => by
    rw [← hy, set_off (fun e => h4 e.symm), set_off (fun e => h3 e.symm)]; exact hc
  have y2 := cE B 2 _ hneB.1 y2
  have p0' := cP 0 _ (by decide) (by decide) p0
  have p1' := cP 1 _ (by decide) (by decide) p1
  have p2' := cP 2 _ (by decide) (by decide) p2
  have p5' := cP 5 _ (by decide) (by decide) p5
  have p4' : y.cell? ⟨P, 4, none⟩ = some (.int .u32 (topK (L ++ C) : Nat)) := by
    rw [← hy]; exact set_same (u := .int .u32 (topK L : Nat)) (by rw [set_off (by decide)]; exact p4)
  have p3' : y.cell? ⟨P, 3, none⟩ = some (.int .u32 (lowK (L ++ C) : Nat)) := by
    rw [← hy, set_off (by decide)]; exact set_same p3
  have fzy : ∀ a : Addr, y.frozen? a = w9.frozen? a := fun a => by rw [← hy, World.frozen?_setCell, World.frozen?_setCell]
  have HAy : Hid (AccAt y A (L ++ C)) := by
    obtain ⟨N', h'⟩ := HA9
    exact ⟨N', fun j hj => cE A j _ (fun e => hPA e.symm) (h'.n j hj), h'.r, cE A 5 _ (fun e => hPA e.symm) h'.m, cE A 6 _ (fun e => hPA e.symm) h'.c, fun j => (fzy _).trans (h'.z j)⟩
  have HTy : Hid (VR y H (2 ^ b) (fun j => .int .i64 ((clsC b (L ++ C) j : Nat) : Int))) := ⟨fun j hj => cE H j _ (fun e => hPH e.symm) (HT9.out.cell j hj), fun j => (fzy _).trans (HT9.out.free j)⟩
  have HZy : Hid (∀ j, y.frozen? ⟨P, j, none⟩ = false) := fun j => (fzy _).trans (HZ9 j)
  have HFy : Hid (Fr w y (stB P A H)) := by
    show Fr w y (stB P A H)
    rw [← hy]
    exact (HF9.out.set (fun e => e.1 rfl) _).set (fun e => e.1 rfl) _
  rw [hy]
  clear hy cE cP p0 p1 p2 p3 p4 p5 fzy HA9 HT9 HZ9 HF9
  have hnn := num_nan C
  have hnl := clsC_le b L 0
  have hnc : nanC L ≤ L.length := List.countP_le_length
  have e1 : wrap64 ((C.length : Int) - ((numL C).length : Int)) = (nanC C : Int) := by unfold wrap64; omega
  have e2 : wrap64 ((nanC L : Int) + (nanC C : Int)) = ((nanC (L ++ C) : Nat) : Int) := by rw [nanC_append]; unfold wrap64; omega
  have dp5 := qw_cell p5'
  have dy := qw_cell y2
  have n0 := qw_some y
  refine wp_lastR 13 rfl _ rfl (by kernel_rfl) (by kernel_rfl) (by kernel_rfl) ?_
  simp only [List.take_succ_cons, List.take_zero]
  repeat (first | go_big_quiet_step (fail) | quiet_step (fail))
  refine wpQuiet_nil ?_
  intro n4 K4 hK4
  clear dp5 dy n0
  have p0 := n4.q.cell p0'
  have p1 := n4.q.cell p1'
  have p2 := n4.q.cell p2'
  have p3 := n4.q.cell p3'
  have p4 := n4.q.cell p4'
  have p5 := n4.q.cell p5'
  have HAz : Hid (AccAt n4.x A (L ++ C)) := HAy.out.next n4.q
  have HZz : ∀ j, n4.x.frozen? ⟨P, j, none⟩ = false := fun j => by rw [n4.q.2]; exact HZy.out j
  have HFz : Hid (Fr w n4.x (stB P A H)) := HFy.out.trans (n4.q.fr _)
  have HTz : Hid (VR n4.x H (2 ^ b) (fun j => .int .i64 ((clsC b (L ++ C) j : Nat) : Int))) := HTy.out.next n4.q
  clear HAy HZy HFy HTy p0' p1' p2' p3' p4' p5'
  generalize n4.x = z at *
  go_wp2_with fail
  go_ret
  refine ⟨rfl, ?_, HFz.out.set (fun e => e.1 rfl) _⟩
  have cE : ∀ Bk j v u, Bk ≠ P → z.cell? ⟨Bk, j, none⟩ = some v → (z.setCell ⟨P, 5, none⟩ u).cell? ⟨Bk, j, none⟩ = some v := fun Bk j v u hne hc => by
    rw [World.cell?_setCell_other _ _ _ _ (fun e => by injection e with e; omega)]; exact hc
  refine ⟨HC0.out.1, HC0.out.2.1, ?_, ?_, ?_, ?_, ?_, ?_, ?_, ?_, ?_, HC0.out.2.2.1, hPA, hPH, HC0.out.2.2.2.2.2⟩
  · rw [set_off (by decide)]; exact p0
  · rw [set_off (by decide)]; exact p1
  · rw [set_off (by decide)]; exact p2
  · rw [set_off (by decide)]; exact p3
  · rw [set_off (by decide)]; exact p4
  · have e3 : ((nanC L : Int) + ((C.length : Int) - ((numL C).length : Int))) = ((nanC (L ++ C) : Nat) : Int) := by rw [nanC_append]; omega
    rw [e3]; exact set_same p5
  · intro j; rw [World.frozen?_setCell]; exact HZz j
  · obtain ⟨N', h'⟩ := HAz
    exact ⟨N', fun j hj => cE A j _ _ (fun e => hPA e.symm) (h'.n j hj), h'.r, cE A 5 _ _ (fun e => hPA e.symm) h'.m, cE A 6 _ _ (fun e => hPA e.symm) h'.c, fun j => by rw [World.frozen?_setCell]; exact h'.z j⟩
  · exact ⟨fun j hj => cE H j _ _ (fun e => hPH e.symm) (HTz.out.cell j hj), fun j => by rw [World.frozen?_setCell]; exact HTz.out.free j⟩
end Go.Proofs.YtieojgblamkgoaaGreatDoor
/- Windows of a plane and their ranks, plain: P12.4 to P12.7. -/
namespace Go.Proofs.YtieojgblamkgoaaGreatDoor
open Go.RowKit
set_option linter.unusedVariables false

end Go.Proofs.YtieojgblamkgoaaGreatDoor
/- rank: what is refused; rectangles. -/
namespace Go.Proofs.YtieojgblamkgoaaGreatDoor
open Go.RowKit
set_option linter.unusedVariables false
set_option linter.unusedSimpArgs false

end Go.Proofs.YtieojgblamkgoaaGreatDoor
/- A region that draws its order: operations that read come up in whatever order; the others one behind the other (or in any of a few orders). -/
namespace Go.Proofs.YtieojgblamkgoaaGreatDoor
open Go.RowKit
set_option linter.unusedVariables false
set_option linter.unusedSimpArgs false

/-- Operations that only read. -/
def rdKind (o : Oper) : Bool := match o.op with
  | .move _ | .assign _ | .build .. | .load .. | .fieldAddr .. | .indexAddr .. | .binOp .. | .unOp .. | .convert .. | .field .. | .index .. | .slice .. | .extract .. | .makeInterface .. => true
  | _ => false
theorem value_only {P : Program} {x : World} (s : Sem Value) (f : FuncId) (args : Array Value) (x' : World) : (do pure (Next.value (← s)) : Sem Next).run P x ≠ .ok (.enter f args) x' := by
  rw [Sem.run_bind]
  cases h : s.run P x with
  | ok v w => simp
  | halt e w => simp
theorem no_enter {P : Program} {x x' : World} {o : Oper} {ρ : Operand → Value} {f : FuncId} {args : Array Value} (h : rdKind o = true) : (execOp ρ o).run P x ≠ .ok (.enter f args) x' := by
  obtain ⟨dst, op, ty, ps, af, g⟩ := o
  cases op <;> first | (cases h; done) | exact value_only _ _ _ _ | (simp only [execOp]; simp; done) | (simp only [execOp]; exact value_only _ _ _ _)
/-- What an operation does, read off its operands. -/
def Does (P : Program) (o : Oper) (ρ : Operand → Value) (x : World) (G : Value → World → Prop) : Prop := match (execOp ρ o).run P x with
  | .ok (.value v) x' => G v x'
  | .ok .skip x' => G undef x'
  | .ok (.enter f args) x' => Calls P f args x' fun e x'' => ∃ v, e = .returned v ∧ G v x''
  | _ => False
theorem Does.wp {P : Program} {o : Oper} {a : Act} {x : World} {G : Value → World → Prop} {R : Exit → Act → World → Prop} {K : Act → World → Prop} (h : Does P o a.eval x G) (hK : ∀ v x', G v x' → K (a.put o.dst v) x') : o.wp P a x K R := by
  unfold Does at h
  unfold Oper.wp
  split at h
  · rename_i e; rw [e]; exact hK _ _ h
  · rename_i e; rw [e]; exact hK _ _ h
  · rename_i e
    rw [e, Oper.upon_enter]
    refine h.mono ?_
    rintro u x' ⟨v, rfl, hg⟩
    exact hK _ _ hg
  · exact h.elim
theorem does_value {P : Program} {o : Oper} {ρ : Operand → Value} {x x' : World} {G : Value → World → Prop} {v : Value} (hr : (execOp ρ o).run P x = .ok (.value v) x') (h : G v x') : Does P o ρ x G := by unfold Does; rw [hr]; exact h
theorem does_skip {P : Program} {o : Oper} {ρ : Operand → Value} {x x' : World} {G : Value → World → Prop} (hr : (execOp ρ o).run P x = .ok .skip x') (h : G undef x') : Does P o ρ x G := by unfold Does; rw [hr]; exact h
theorem does_call {P : Program} {o : Oper} {ρ : Operand → Value} {x : World} {G : Value → World → Prop} {f : FuncId} {args : Array Value} (hr : (execOp ρ o).run P x = .ok (.enter f args) x) (h : Calls P f args x fun e x' => ∃ v, e = .returned v ∧ G v x') : Does P o ρ x G := by unfold Does; rw [hr]; exact h
/-- What may come next behind a row of operations. -/
def nexts (ords : List (List Nat)) (p : List Nat) : List Nat := ords.filterMap fun o => if o.take p.length = p then o[p.length]? else none
/-- Do all operations that read come up ahead of this one? -/
def fullB (l : List Oper) (rd : List Nat) (k : Nat) : Bool := match l[k]? with
  | some o => rd.all fun r => (reach l 8 ((o.after.toList.filter (Region.binds .any)).map (·.on))).contains r
  | none => false
/-- The operations that do not only read, in each order. -/
def wpTree (P : Program) (l : List Oper) (rd : List Nat) (ords : List (List Nat)) (C : World → Prop) (N : Act → World → Prop) : Nat → List Nat → Act → World → Prop
  | 0, p, A, x => N A x
  | n + 1, p, A, x => ∀ k ∈ nexts ords p, ∀ o, l[k]? = some o → Does P o A.eval x (fun v x' => (fullB l rd k = false → C x') ∧ wpTree P l rd ords C N n (p ++ [k]) (A.put o.dst v) x')
/-- The slots that an operation looks at. -/
def looks (o : Oper) : List Nat := o.op.operands.toList.filterMap fun | .tmp t => some t | _ => none
/-- What a text of operations must be like. -/
structure MkOk (l : List Oper) (rd : List Nat) (ords : List (List Nat)) (n : Nat) : Prop where
  sel : ∀ (j : Nat) (o : Oper) cs b, l[j]? = some o → o.op ≠ .select cs b
  gd : ∀ (k : Nat) (o : Oper), l[k]? = some o → o.guard = none
  lt : ∀ (k : Nat) (o : Oper), l[k]? = some o → ∀ e ∈ o.after, Region.binds .any e = true → e.on < k
  look : ∀ (k : Nat) (o : Oper) (j t : Nat), l[k]? = some o → dstOf l j = some t → t ∈ looks o → (∃ e ∈ o.after, Region.binds .any e = true ∧ e.on = j) ∨ (j ∉ rd ∧ ∃ oj, l[j]? = some oj ∧ ∃ e ∈ oj.after, Region.binds .any e = true ∧ e.on = k)
  dst : ∀ j k t, dstOf l j = some t → dstOf l k = some t → j = k
  rdc : ∀ (r : Nat) (o : Oper), r ∈ rd → l[r]? = some o → ∀ e ∈ o.after, Region.binds .any e = true → e.on ∈ rd
  rdl : ∀ r ∈ rd, r < l.length
  rdk : ∀ (r : Nat) (o : Oper), r ∈ rd → l[r]? = some o → rdKind o = true
  rda : rd.Pairwise (· < ·)
  len : ∀ od ∈ ords, od.length = n
  one : ords ≠ []
  rdm : ∀ od ∈ ords, ∀ k ∈ od, k ∉ rd ∧ k < l.length
  all : ∀ od ∈ ords, ∀ k, k < l.length → k ∉ rd → k ∈ od
  nd : ∀ od ∈ ords, od.Nodup
  nx : ∀ od ∈ ords, ∀ i, i ≤ n → ∀ (k : Nat) (o : Oper), l[k]? = some o → k ∉ rd → k ∉ od.take i → (∀ e ∈ o.after, Region.binds .any e = true → e.on ∉ rd → e.on ∈ od.take i) → k ∈ nexts ords (od.take i)
def mkB (l : List Oper) (rd : List Nat) (ords : List (List Nat)) (n : Nat) : Bool :=
  Region.noSelect l.toArray &&
  ((List.range l.length).all fun k => match l[k]? with
    | some o => o.guard.isNone &&
      ((o.after.toList.all fun e => !(Region.binds .any e) || decide (e.on < k)) &&
      (((List.range l.length).all fun j => match dstOf l j with
        | some t => (!((looks o).contains t) || ((o.after.toList.any fun e => Region.binds .any e && (e.on == j)) || (!(rd.contains j) && match l[j]? with | some oj => oj.after.toList.any fun e => Region.binds .any e && (e.on == k) | none => false))) && ((j == k) || (o.dst != some t))
        | none => true) &&
      (!(rd.contains k) || (rdKind o && (o.after.toList.all fun e => !(Region.binds .any e) || rd.contains e.on)))))
    | none => true) &&
  ((rd.all fun r => decide (r < l.length)) && (decide (rd.Pairwise (· < ·)) &&
  ((ords.all fun od => od.length == n) && (!ords.isEmpty &&
  ((ords.all fun od => od.all fun k => !(rd.contains k) && decide (k < l.length)) &&
  ((ords.all fun od => (List.range l.length).all fun k => rd.contains k || od.contains k) && ((ords.all fun od => decide od.Nodup) &&
  (ords.all fun od => (List.range (n + 1)).all fun i => (List.range l.length).all fun k => match l[k]? with
    | some o => rd.contains k || ((od.take i).contains k || ((o.after.toList.any fun e => Region.binds .any e && (!(rd.contains e.on) && !((od.take i).contains e.on))) || (nexts ords (od.take i)).contains k))
    | none => true))))))))
theorem mkB_ok {l : List Oper} {rd : List Nat} {ords : List (List Nat)} {n : Nat} (h : mkB l rd ords n = true) : MkOk l rd ords n := by
  unfold mkB at h
  simp only [Bool.and_eq_true] at h
  obtain ⟨⟨h0, h1⟩, h2, h3, h4, h5, h6, h7, h9, h8⟩ := h
  have at_ : ∀ (k : Nat) (o : Oper), l[k]? = some o → o.guard = none ∧ (∀ e ∈ o.after, Region.binds .any e = true → e.on < k) ∧ (∀ j t, dstOf l j = some t → (t ∈ looks o → (∃ e ∈ o.after, Region.binds .any e = true ∧ e.on = j) ∨ (j ∉ rd ∧ ∃ oj, l[j]? = some oj ∧ ∃ e ∈ oj.after, Region.binds .any e = true ∧ e.on = k)) ∧ (o.dst = some t → j = k)) ∧ (k ∈ rd → rdKind o = true ∧ ∀ e ∈ o.after, Region.binds .any e = true → e.on ∈ rd) := fun k o hk => by
    have hlt : k < l.length := (List.getElem?_eq_some_iff.1 hk).1
    have g := List.all_eq_true.1 h1 k (List.mem_range.2 hlt)
    rw [hk] at g
    simp only [Bool.and_eq_true] at g
    obtain ⟨g1, g2, g3, g4⟩ := g
    refine ⟨by simpa using g1, fun e he hb => ?_, fun j t hj => ?_, fun hr => ?_⟩
    · have := List.all_eq_true.1 g2 e (by simpa using he)
      rw [hb] at this
      simpa using this
    · have hjl : j < l.length := by
        unfold dstOf at hj
        cases hl : l[j]? with
        | none => rw [hl] at hj; cases hj
        | some o' => exact (List.getElem?_eq_some_iff.1 hl).1
      have := List.all_eq_true.1 g3 j (List.mem_range.2 hjl)
      rw [hj] at this
      simp only [Bool.and_eq_true, Bool.or_eq_true] at this
      refine ⟨fun ht => ?_, fun ho => ?_⟩
      · rcases this.1 with c | c
        · have : (looks o).contains t = true := by simpa using ht
          rw [this] at c; cases c
        · rcases c with c | c
          · obtain ⟨e, he, hb⟩ := List.any_eq_true.1 c
            rw [Bool.and_eq_true] at hb
            exact Or.inl ⟨e, by simpa using he, hb.1, by simpa using hb.2⟩
          · refine Or.inr ⟨by simpa using c.1, ?_⟩
            obtain ⟨oj, hoj⟩ : ∃ oj, l[j]? = some oj := ⟨_, List.getElem?_eq_getElem hjl⟩
            have c2 := c.2
            rw [hoj] at c2
            obtain ⟨e, he, hb⟩ := List.any_eq_true.1 c2
            rw [Bool.and_eq_true] at hb
            exact ⟨oj, hoj, e, by simpa using he, hb.1, by simpa using hb.2⟩
      · rcases this.2 with c | c
        · simpa using c
        · rw [ho] at c; simp at c
    · have hc : rd.contains k = true := by simpa using hr
      rw [hc, Bool.not_true, Bool.false_or, Bool.and_eq_true] at g4
      refine ⟨g4.1, fun e he hb => ?_⟩
      have := List.all_eq_true.1 g4.2 e (by simpa using he)
      rw [hb] at this
      simpa using this
  refine ⟨fun j o cs b hj => Region.noSelect_spec h0 j o cs b (by simpa using hj), fun k o hk => (at_ k o hk).1, fun k o hk => (at_ k o hk).2.1, fun k o j t hk hj ht => ((at_ k o hk).2.2.1 j t hj).1 ht, fun j k t hj hk => ?_, fun r o hr ho => ((at_ r o ho).2.2.2 hr).2, fun r hr => by simpa using List.all_eq_true.1 h2 r hr, fun r o hr ho => ((at_ r o ho).2.2.2 hr).1, of_decide_eq_true h3, fun od ho => by simpa using List.all_eq_true.1 h4 od ho, fun e => (by subst e; cases h5), fun od ho k hk => ?_, fun od ho k hk hr => ?_, fun od ho => of_decide_eq_true (List.all_eq_true.1 h9 od ho), fun od ho i hi k o hk hr hp hd => ?_⟩
  · cases hl : l[k]? with
    | none => unfold dstOf at hk; rw [hl] at hk; cases hk
    | some o => exact ((at_ k o hl).2.2.1 j t hj).2 (by rw [dstOf_at hl] at hk; exact hk)
  · have := List.all_eq_true.1 (List.all_eq_true.1 h6 od ho) k hk
    simpa using this
  · have := List.all_eq_true.1 (List.all_eq_true.1 h7 od ho) k (List.mem_range.2 hk)
    simp only [Bool.or_eq_true] at this
    rcases this with c | c
    · exact absurd (by simpa using c) hr
    · simpa using c
  · have := List.all_eq_true.1 (List.all_eq_true.1 (List.all_eq_true.1 h8 od ho) i (List.mem_range.2 (by omega))) k (List.mem_range.2 (List.getElem?_eq_some_iff.1 hk).1)
    rw [hk] at this
    simp only [Bool.or_eq_true] at this
    rcases this with c | c | c | c
    · exact absurd (by simpa using c) hr
    · exact absurd (by simpa using c) hp
    · obtain ⟨e, he, hb⟩ := List.any_eq_true.1 c
      simp only [Bool.and_eq_true] at hb
      obtain ⟨b1, b2, b3⟩ := hb
      exact absurd (hd e (by simpa using he) b1 (by simpa using b2)) (by simpa using b3)
    · simpa using c
theorem eval_agree {a A : Act} {x : Operand} (h : ∀ t, x = .tmp t → a.tmps[t]? = A.tmps[t]?) : a.eval x = A.eval x := by
  cases x with
  | tmp t =>
    have := h t rfl
    show a.tmps.getD t undef = A.tmps.getD t undef
    rw [Array.getD_eq_getD_getElem?, Array.getD_eq_getD_getElem?, this]
  | _ => rfl
theorem exec_agree {o : Oper} (hs : ∀ cs b, o.op ≠ .select cs b) {a A : Act} (h : ∀ t ∈ looks o, a.tmps[t]? = A.tmps[t]?) : execOp a.eval o = execOp A.eval o :=
  execOp_congr o hs fun x hx => eval_agree fun t ht => h t (by
    subst ht
    exact List.mem_filterMap.2 ⟨.tmp t, by simpa using hx, rfl⟩)
theorem put_size (a : Act) (d : Option Tmp) (v : Value) : (a.put d v).tmps.size = a.tmps.size := by
  cases d with
  | none => rfl
  | some t => exact Array.size_setIfInBounds
theorem put_defers (a : Act) (d : Option Tmp) (v : Value) : (a.put d v).defers = a.defers := by cases d <;> rfl
theorem put_ne (a : Act) {d : Option Tmp} (v : Value) {j : Nat} (h : d ≠ some j) : (a.put d v).tmps[j]? = a.tmps[j]? := by
  cases d with
  | none => rfl
  | some t => exact Array.getElem?_setIfInBounds_ne (fun e => h (by rw [e]))
theorem put_eq (a : Act) {t : Nat} (v : Value) (h : t < a.tmps.size) : (a.put (some t) v).tmps[t]? = some v := Array.getElem?_setIfInBounds_self_of_lt h
/-- What the operations that read tell. -/
theorem readers {P : Program} {l : List Oper} {Cl : World → Prop} {N : Act → Prop} : ∀ (rd : List Nat) (lr : List Oper) (a : Act), rd.map (fun r => l[r]?) = lr.map some →
    (∀ o ∈ lr, o.guard = none) → (∀ j k t, dstOf l j = some t → dstOf l k = some t → j = k) → rd.Pairwise (· < ·) →
    wpQuiet P l.toArray Cl N lr a →
    ∃ A : Act, N A ∧ A.tmps.size = a.tmps.size ∧ A.defers = a.defers ∧ (∀ j, (∀ r ∈ rd, dstOf l r ≠ some j) → A.tmps[j]? = a.tmps[j]?) ∧
    ∀ r ∈ rd, ∀ o, l[r]? = some o → ∃ (ar : Act) (v : Value), (∀ x, Cl x → Oper.quietUpon P Cl x v ((execOp ar.eval o).run P x)) ∧ (∀ t, o.dst = some t → t < a.tmps.size → A.tmps[t]? = some v) ∧ ∀ (j : Nat), (∀ r' ∈ rd, r ≤ r' → dstOf l r' ≠ some j) → ar.tmps[j]? = A.tmps[j]?
  | [], lr, a, hl, hg, hd, hp, h => by
    cases lr with
    | nil =>
      exact ⟨a, h, rfl, rfl, fun _ _ => rfl, fun r hr => (by cases hr)⟩
    | cons o lr => cases hl
  | r :: rd, lr, a, hl, hg, hd, hp, h => by
    cases lr with
    | nil => cases hl
    | cons o lr =>
      simp only [List.map_cons, List.cons.injEq] at hl
      obtain ⟨ho, hl⟩ := hl
      have hgo : o.guard = none := hg o List.mem_cons_self
      have hw : Region.wanted o (yielded l.toArray a.tmps) = true := by simp [Region.wanted, hgo]
      have h : (if Region.wanted o (yielded l.toArray a.tmps) = true then o.quiet P a Cl (wpQuiet P l.toArray Cl N lr) else wpQuiet P l.toArray Cl N lr (a.put o.dst undef)) := h
      rw [if_pos hw] at h
      obtain ⟨v, hv, hn⟩ := h
      rw [List.pairwise_cons] at hp
      obtain ⟨A, i0, i1, i2, i3, i4⟩ := readers rd lr (a.put o.dst v) hl (fun o' h' => hg o' (List.mem_cons_of_mem _ h')) hd hp.2 hn
      rw [put_size] at i1
      rw [put_defers] at i2
      have hdo : dstOf l r = o.dst := dstOf_at ho
      have hne : ∀ t, o.dst = some t → ∀ r' ∈ rd, dstOf l r' ≠ some t := fun t ht r' hr' e => by
        have := hd r r' t (by rw [hdo]; exact ht) e
        have := hp.1 r' hr'
        omega
      refine ⟨A, i0, i1, i2, fun j hj => ?_, fun r' hr' o' ho' => ?_⟩
      · rw [i3 j (fun r' hr' => hj r' (List.mem_cons_of_mem _ hr'))]
        exact put_ne a v (by rw [← hdo]; exact hj r List.mem_cons_self)
      · rcases List.mem_cons.1 hr' with rfl | hr'
        · rw [ho] at ho'
          injection ho' with ho'
          subst ho'
          refine ⟨a, v, hv, fun t ht hb => ?_, fun j hj => ?_⟩
          · rw [i3 t (hne t ht), ht]
            exact put_eq a v hb
          · rw [i3 j (fun r' hr' => hj r' (List.mem_cons_of_mem _ hr') (Nat.le_of_lt (hp.1 r' hr')))]
            exact (put_ne a v (by rw [← hdo]; exact hj r' List.mem_cons_self (Nat.le_refl _))).symm
        · obtain ⟨ar, u, q1, q2, q3⟩ := i4 r' hr' o' ho'
          refine ⟨ar, u, q1, fun t ht hb => q2 t ht (by rw [put_size]; exact hb), fun j hj => q3 j (fun r2 h2 h3 => hj r2 (List.mem_cons_of_mem _ h2) h3)⟩
structure MkInv (P : Program) (l : List Oper) (rd : List Nat) (ords : List (List Nat)) (n : Nat) (C : World → Prop) (N : Act → World → Prop) (a0 A : Act) (lst : Array Bool) (a : Act) (x : World) (od : List Nat) (i : Nat) (B : Act) : Prop where
  ls : lst.size = l.length
  closed : ∀ (j : Nat) (o : Oper), lst.getD j false = true → l[j]? = some o → ∀ e ∈ o.after, Region.binds .any e = true → lst.getD e.on false = true
  mem : od ∈ ords
  le : i ≤ n
  mains : ∀ k, k < l.length → k ∉ rd → (lst.getD k false = true ↔ k ∈ od.take i)
  tree : wpTree P l rd ords C N (n - i) (od.take i) B x
  size : a.tmps.size = B.tmps.size
  size0 : B.tmps.size = a0.tmps.size
  defers : a.defers = B.defers
  agree : ∀ (j : Nat), (∀ r ∈ rd, lst.getD r false = false → dstOf l r ≠ some j) → a.tmps[j]? = B.tmps[j]?
  rdv : ∀ r ∈ rd, ∀ t, dstOf l r = some t → B.tmps[t]? = A.tmps[t]?
  oth : ∀ (j : Nat), (∀ k, dstOf l k ≠ some j) → B.tmps[j]? = a0.tmps[j]?
  cl : (∃ r ∈ rd, lst.getD r false = false) → C x
  fresh : ∀ (j t : Nat), j ∉ rd → j ∉ od.take i → dstOf l j = some t → B.tmps[t]? = a0.tmps[t]?
theorem act_ext {a b : Act} (h1 : a.tmps.size = b.tmps.size) (h2 : a.defers = b.defers) (h3 : ∀ (j : Nat), a.tmps[j]? = b.tmps[j]?) : a = b := by
  obtain ⟨at_, ad⟩ := a
  obtain ⟨bt, bd⟩ := b
  simp only at h1 h2 h3
  subst h2
  congr 1
  exact Array.ext_getElem? h3
def maxB (l : List Oper) (m : Nat) : Bool := l.all fun o => match o.dst with | some t => decide (t < m) | none => true
theorem maxB_ok {l : List Oper} {m : Nat} (h : maxB l m = true) : ∀ i t, dstOf l i = some t → t < m := fun i t hi => by
  unfold dstOf at hi
  cases hl : l[i]? with
  | none => rw [hl] at hi; cases hi
  | some o =>
    rw [hl] at hi
    have hi : o.dst = some t := hi
    have := List.all_eq_true.1 h o (List.mem_of_getElem? hl)
    rw [hi] at this
    simpa using this
theorem map_some {l : List Oper} : ∀ (rd : List Nat), (∀ r ∈ rd, r < l.length) → rd.map (fun r => l[r]?) = (rd.filterMap (fun r => l[r]?)).map some
  | [], _ => rfl
  | r :: rd, h => by
    obtain ⟨o, ho⟩ : ∃ o, l[r]? = some o := ⟨_, List.getElem?_eq_getElem (h r List.mem_cons_self)⟩
    rw [List.map_cons, List.filterMap_cons, ho, map_some rd (fun r' hr' => h r' (List.mem_cons_of_mem _ hr'))]
    rfl
theorem getD_repl (n j : Nat) : (Array.replicate n false).getD j false = false := by
  rw [Array.getD_eq_getD_getElem?, Array.getElem?_replicate]
  split <;> rfl
theorem nexts_of {ords : List (List Nat)} {p : List Nat} {k : Nat} (h : k ∈ nexts ords p) : ∃ od ∈ ords, od.take p.length = p ∧ od[p.length]? = some k := by
  obtain ⟨od, h1, h2⟩ := List.mem_filterMap.1 h
  by_cases hp : od.take p.length = p
  · rw [if_pos hp] at h2; exact ⟨od, h1, hp, h2⟩
  · rw [if_neg hp] at h2; cases h2
set_option maxHeartbeats 1000000 in
theorem wp_region_mkC {P : Program} {id : Nat} {R : Exit → Act → World → Prop} {a0 : Act} {w : World} {l : List Oper} (rd : List Nat) (ords : List (List Nat)) (n : Nat) (lr : List Oper) (C : World → Prop)
    (hm : P.follows .mixedOrders = true) (hB : mkB l rd ords n = true) (hlr : rd.filterMap (fun r => l[r]?) = lr) (hmx : maxB l a0.tmps.size = true) (hC' : C w.drew)
    (hrd : wpQuiet P l.toArray C (fun A => wpTree P l rd ords C (fun A x => R .normal A x) n [] A w.drew) lr a0) :
    (Code.region id l.toArray true).wp P R a0 w := by
  have ok := mkB_ok hB
  have hmax := maxB_ok hmx
  have hlr := hlr ▸ map_some rd ok.rdl
  have get : ∀ k, l.toArray[k]? = l[k]? := fun k => List.getElem?_toArray
  have hc := List.countP_le_length (l := (Array.replicate l.toArray.size false).toList) (p := (· == false))
  have hlg : ∀ o ∈ lr, o.guard = none := fun o ho => by
    obtain ⟨r, hr, e⟩ := List.mem_map.1 (by rw [hlr]; exact List.mem_map_of_mem ho : some o ∈ rd.map (fun r => l[r]?))
    exact ok.gd r o e
  obtain ⟨A, hT, z1, z2, z3, z4⟩ := readers rd lr a0 hlr hlg ok.dst ok.rda hrd
  obtain ⟨od0, hod0⟩ : ∃ od, od ∈ ords := by
    cases h : ords with
    | nil => exact absurd h ok.one
    | cons od t => exact ⟨od, List.mem_cons_self⟩
  -- the frame of an operation agrees where it looks
  have agr : ∀ {lst : Array Bool} {a : Act} {x : World} {od : List Nat} {i : Nat} {B : Act}, MkInv P l rd ords n C (fun A x => R .normal A x) a0 A lst a x od i B → ∀ (k : Nat) (o : Oper), l[k]? = some o → (∀ e ∈ o.after, Region.binds .any e = true → lst.getD e.on false = true) → ∀ t ∈ looks o, a.tmps[t]? = B.tmps[t]? := fun T k o ho hdep t ht => by
    refine T.agree t (fun r hr hl hd => ?_)
    rcases ok.look k o r t ho hd ht with ⟨e, he, hb, hon⟩ | ⟨hnr, _⟩
    · have := hdep e he hb
      rw [hon, hl] at this
      cases this
    · exact hnr hr
  refine wp_region_any hm (wpAny_invS (fun lst a x => ∃ od i B, MkInv P l rd ords n C (fun A x => R .normal A x) a0 A lst a x od i B) ?_ ?_ _ _ _ _ ?_ (by simpa using hc))
  · rintro lst a x k o ⟨od, i, B, T⟩ ho hl hdep
    rw [get] at ho
    have hkl : k < l.length := (List.getElem?_eq_some_iff.1 ho).1
    have hgd := ok.gd k o ho
    have hlf : lst.getD k false = false := not_got hl
    have hdo : dstOf l k = o.dst := dstOf_at ho
    have hag := agr T k o ho hdep
    refine ⟨fun _ => ?_, fun hw => (by unfold Region.wanted at hw; rw [hgd] at hw; cases hw)⟩
    by_cases hr : k ∈ rd
    · -- one that reads
      have hCx : C x := T.cl ⟨k, hr, hlf⟩
      obtain ⟨ar, v, q0, q2, q3⟩ := z4 k hr o ho
      have q1 := q0 x hCx
      have e1 : execOp a.eval o = execOp ar.eval o := exec_agree (fun cs b => ok.sel k o cs b ho) (fun t ht => by
        rw [hag t ht]
        by_cases hd : ∃ j, dstOf l j = some t
        · obtain ⟨j, hj⟩ := hd
          rcases ok.look k o j t ho hj ht with ⟨e, he, hb, hon⟩ | ⟨hnr, oj, hoj, e, he, hb, hon⟩
          · have hjr : j ∈ rd := by rw [← hon]; exact ok.rdc k o hr ho e he hb
            have hjk : j < k := by rw [← hon]; exact ok.lt k o ho e he hb
            rw [T.rdv j hjr t hj]
            refine (q3 t (fun r' hr' hle hd' => ?_)).symm
            have := ok.dst j r' t hj hd'
            omega
          · have hjl : j < l.length := (List.getElem?_eq_some_iff.1 hoj).1
            have hnj : j ∉ od.take i := fun hm => by
              have h1 := (T.mains j hjl hnr).2 hm
              have h2 := T.closed j oj h1 hoj e he hb
              rw [hon, hlf] at h2
              cases h2
            have hnd : ∀ r ∈ rd, dstOf l r ≠ some t := fun r hr' hd' => hnr (by rw [ok.dst j r t hj hd']; exact hr')
            rw [T.fresh j t hnr hnj hj, ← z3 t hnd]
            exact (q3 t (fun r' hr' _ => hnd r' hr')).symm
        · have hd : ∀ j, dstOf l j ≠ some t := fun j hj => hd ⟨j, hj⟩
          rw [T.oth t hd, ← z3 t (fun r _ => hd r)]
          exact (q3 t (fun r' _ _ => hd r')).symm)
      have key : ∀ x', x' = x → ∃ od i B, MkInv P l rd ords n C (fun A x => R .normal A x) a0 A (lst.setIfInBounds k true) (a.put o.dst v) x' od i B := fun x' hx' => by
        subst hx'
        have hsz : k < lst.size := by rw [T.ls]; exact hkl
        refine ⟨od, i, B, ⟨by rw [Array.size_setIfInBounds]; exact T.ls, closed_set ho T.closed hdep, T.mem, T.le, fun j hj hjr => ?_, T.tree, by rw [put_size]; exact T.size, T.size0, by rw [put_defers]; exact T.defers, fun j hj => ?_, T.rdv, T.oth, fun ⟨r, h1, h2⟩ => T.cl ⟨r, h1, ?_⟩, T.fresh⟩⟩
        · rw [set_ne (fun e => hjr (by rw [← e]; exact hr))]; exact T.mains j hj hjr
        · by_cases hjk : o.dst = some j
          · rw [hjk, put_eq a v (by rw [T.size, T.size0]; exact hmax k j (by rw [hdo]; exact hjk)), T.rdv k hr j (by rw [hdo]; exact hjk)]
            exact (q2 j hjk (hmax k j (by rw [hdo]; exact hjk))).symm
          · rw [put_ne a v hjk]
            refine T.agree j (fun r h1 h2 hd => ?_)
            by_cases hrk : k = r
            · subst hrk; exact hjk (by rw [← hdo]; exact hd)
            · exact hj r h1 (by rw [set_ne hrk]; exact h2) hd
        · by_cases hrk : k = r
          · subst hrk; exact hlf
          · rw [set_ne hrk] at h2; exact h2
      unfold Oper.wp
      rw [e1]
      generalize hres : (execOp ar.eval o).run P x = res at q1
      cases res with
      | ok nn w' =>
        cases nn <;> simp only [Oper.quietUpon] at q1 <;> simp only [Oper.upon]
        case value u =>
          obtain ⟨f1, f2⟩ := q1
          rw [f2]; exact key _ f1
        case skip =>
          obtain ⟨f1, f2⟩ := q1
          rw [← f2]; exact key _ f1
        case enter f args =>
          exact absurd hres (no_enter (ok.rdk k o hr ho))
      | halt e w' => simp only [Oper.quietUpon] at q1
    · -- one of the others
      have hnp : k ∉ od.take i := fun hk => by
        have := (T.mains k hkl hr).2 hk
        rw [hlf] at this; cases this
      have hnx := ok.nx od T.mem i T.le k o ho hr hnp (fun e he hb hnr => by
        have hel : e.on < l.length := by have := ok.lt k o ho e he hb; omega
        exact (T.mains e.on hel hnr).1 (hdep e he hb))
      have hlen := ok.len od T.mem
      have hpl : (od.take i).length = i := by rw [List.length_take]; have := T.le; omega
      obtain ⟨od', m1, m2, m3⟩ := nexts_of hnx
      rw [hpl] at m2 m3
      have hin : i < n := by
        have := (List.getElem?_eq_some_iff.1 m3).1
        rw [ok.len od' m1] at this; exact this
      have htk : od'.take (i + 1) = od.take i ++ [k] := by rw [List.take_add_one, m2, m3]; rfl
      have hT' := T.tree
      rw [show n - i = (n - (i + 1)) + 1 by omega] at hT'
      have hD := hT' k hnx o ho
      have e1 := exec_agree (A := B) (fun cs b => ok.sel k o cs b ho) hag
      unfold Does at hD
      rw [← e1] at hD
      change Does P o a.eval x _ at hD
      refine hD.wp (fun v x' hG => ?_)
      have hsz : k < lst.size := by rw [T.ls]; exact hkl
      refine ⟨od', i + 1, B.put o.dst v, ⟨by rw [Array.size_setIfInBounds]; exact T.ls, closed_set ho T.closed hdep, m1, hin, fun j hj hjr => ?_, by rw [htk]; exact hG.2, by rw [put_size, put_size]; exact T.size, by rw [put_size]; exact T.size0, by rw [put_defers, put_defers]; exact T.defers, fun j hj => ?_, fun r hr' t ht => ?_, fun j hj => ?_, fun ⟨r, h1, h2⟩ => ?_, fun j t hjr hjn hjt => ?_⟩⟩
      · rw [htk, List.mem_append, List.mem_singleton]
        by_cases hjk : k = j
        · subst hjk; simp [set_eq hsz]
        · rw [set_ne hjk, T.mains j hj hjr]
          exact ⟨Or.inl, fun h => h.elim (fun h => h) (fun e => absurd e.symm hjk)⟩
      · by_cases hjk : o.dst = some j
        · rw [hjk, put_eq a v (by rw [T.size, T.size0]; exact hmax k j (by rw [hdo]; exact hjk)), put_eq B v (by rw [T.size0]; exact hmax k j (by rw [hdo]; exact hjk))]
        · rw [put_ne a v hjk, put_ne B v hjk]
          refine T.agree j (fun r h1 h2 hd => hj r h1 ?_ hd)
          rw [set_ne (fun e => hr (by rw [e]; exact h1))]; exact h2
      · have hne : o.dst ≠ some t := fun e => by
          have := ok.dst r k t ht (by rw [hdo]; exact e)
          exact hr (by rw [← this]; exact hr')
        rw [put_ne B v hne]; exact T.rdv r hr' t ht
      · rw [put_ne B v (by rw [← hdo]; exact hj k)]; exact T.oth j hj
      · refine hG.1 ?_
        cases hf : fullB l rd k with
        | false => rfl
        | true =>
          exfalso
          unfold fullB at hf
          rw [ho] at hf
          have hm := List.all_eq_true.1 hf r h1
          have := reach_got T.closed 8 ((o.after.toList.filter (Region.binds .any)).map (·.on)) (fun j hj => by
            obtain ⟨e, he, rfl⟩ := List.mem_map.1 hj
            obtain ⟨g1, g2⟩ := List.mem_filter.1 he
            exact hdep e (by simpa using g1) g2) r (by simpa using hm)
          rw [set_ne (fun e => hr (by rw [e]; exact h1))] at h2
          rw [h2] at this; cases this
      · rw [htk, List.mem_append, List.mem_singleton] at hjn
        have hne : o.dst ≠ some t := fun e => by
          have := ok.dst j k t hjt (by rw [hdo]; exact e)
          exact hjn (Or.inr this)
        rw [put_ne B v hne]
        have hjl : j < l.length := by
          unfold dstOf at hjt
          cases hl' : l[j]? with
          | none => rw [hl'] at hjt; cases hjt
          | some o' => exact (List.getElem?_eq_some_iff.1 hl').1
        refine T.fresh j t hjr (fun hm => ?_) hjt
        exact hjn (Or.inl hm)
  · rintro lst a x ⟨od, i, B, T⟩ hno
    have all : ∀ j, j < l.length → lst.getD j false = true := by
      intro j
      induction j using Nat.strongRecOn with
      | ind j ih =>
        intro hj
        obtain ⟨o, ho⟩ : ∃ o, l[j]? = some o := ⟨_, List.getElem?_eq_getElem hj⟩
        refine got_of (hno j o (by rw [get]; exact ho) (fun e he hb => ?_)) (by rw [T.ls]; exact hj)
        have := ok.lt j o ho e he hb
        exact ih e.on this (by omega)
    have hi : i = n := by
      rcases Nat.lt_or_ge i n with hlt | hge
      · exfalso
        have hlen := ok.len od T.mem
        obtain ⟨k, hk⟩ : ∃ k, od[i]? = some k := ⟨_, List.getElem?_eq_getElem (by omega)⟩
        have hkm := List.mem_of_getElem? hk
        obtain ⟨h1, h2⟩ := ok.rdm od T.mem k hkm
        have h3 := (T.mains k h2 h1).1 (all k h2)
        obtain ⟨m, hm⟩ := List.getElem?_of_mem h3
        have hmi : m < i := by have := (List.getElem?_eq_some_iff.1 hm).1; rw [List.length_take] at this; omega
        rw [List.getElem?_take_of_lt hmi] at hm
        have hnd := ok.nd od T.mem
        have := (List.getElem?_inj (by omega : m < od.length) hnd).1 (hm.trans hk.symm)
        omega
      · exact Nat.le_antisymm T.le hge
    have hT' := T.tree
    rw [hi, Nat.sub_self] at hT'
    have hab : a = B := act_ext T.size T.defers (fun j => T.agree j (fun r hr hl => by rw [all r (ok.rdl r hr)] at hl; cases hl))
    rw [hab]
    exact hT'
  · refine ⟨od0, 0, A, ⟨by simp, fun j o hj => ?_, hod0, Nat.zero_le _, fun k hk hkr => ?_, by simpa using hT, z1.symm, z1, z2.symm, fun j hj => ?_, fun r hr t ht => rfl, fun j hj => z3 j (fun r hr => hj r), fun _ => hC', fun j t hjr _ hjt => z3 t (fun r hr hd => hjr (by rw [ok.dst j r t hjt hd]; exact hr))⟩⟩
    · rw [getD_repl] at hj; cases hj
    · rw [getD_repl]; simp
    · exact (z3 j (fun r hr => hj r hr (getD_repl _ _))).symm
theorem wpQuiet_mono {P : Program} {ops : Array Oper} {C : World → Prop} {N N' : Act → Prop} (h : ∀ A, N A → N' A) : ∀ (lr : List Oper) (a : Act), wpQuiet P ops C N lr a → wpQuiet P ops C N' lr a
  | [], a, hh => h a hh
  | o :: lr, a, hh => by
    have hh : (if Region.wanted o (yielded ops a.tmps) = true then o.quiet P a C (wpQuiet P ops C N lr) else wpQuiet P ops C N lr (a.put o.dst undef)) := hh
    show (if Region.wanted o (yielded ops a.tmps) = true then o.quiet P a C (wpQuiet P ops C N' lr) else wpQuiet P ops C N' lr (a.put o.dst undef))
    by_cases hw : Region.wanted o (yielded ops a.tmps) = true
    · rw [if_pos hw] at hh ⊢
      exact Oper.quiet_mono (fun a' => wpQuiet_mono h lr a') hh
    · rw [if_neg hw] at hh ⊢
      exact wpQuiet_mono h lr _ hh
theorem wpTree_mono {P : Program} {l : List Oper} {rd : List Nat} {ords : List (List Nat)} {C C' : World → Prop} {N : Act → World → Prop} (hC : ∀ x, C x → C' x) : ∀ (n : Nat) (p : List Nat) (A : Act) (x : World), wpTree P l rd ords C N n p A x → wpTree P l rd ords C' N n p A x
  | 0, p, A, x, h => h
  | n + 1, p, A, x, h => fun k hk o ho => by
    have := h k hk o ho
    unfold Does at this ⊢
    split at this
    · exact ⟨fun e => hC _ (this.1 e), wpTree_mono hC n _ _ _ this.2⟩
    · exact ⟨fun e => hC _ (this.1 e), wpTree_mono hC n _ _ _ this.2⟩
    · exact this.mono fun e x' ⟨v, h1, h2⟩ => ⟨v, h1, fun e => hC _ (h2.1 e), wpTree_mono hC n _ _ _ h2.2⟩
    · exact this
theorem wp_region_mk {P : Program} {id : Nat} {R : Exit → Act → World → Prop} {a0 : Act} {w : World} {l : List Oper} (rd : List Nat) (ords : List (List Nat)) (n : Nat) (lr : List Oper)
    (hm : P.follows .mixedOrders = true) (hB : mkB l rd ords n = true) (hlr : rd.filterMap (fun r => l[r]?) = lr) (hmx : maxB l a0.tmps.size = true)
    (hrd : wpQuiet P l.toArray (fun y => ∃ n : QW w, y = n.x) (fun A => ∀ x, Q w x → wpTree P l rd ords (fun x => Q w x) (fun A x => R .normal A x) n [] A x) lr a0) :
    (Code.region id l.toArray true).wp P R a0 w :=
  wp_region_mkC rd ords n lr (fun y => ∃ n : QW w, y = n.x) hm hB hlr hmx ⟨⟨w.drew, (Q.refl w).drew⟩, rfl⟩ (wpQuiet_mono (fun A h => wpTree_mono (fun x hx => ⟨⟨x, hx⟩, rfl⟩) _ _ _ _ (h w.drew (Q.refl w).drew)) lr a0 hrd)
/-- Worlds of a kind. -/
structure CW (D : World → Prop) where
  x : World
  h : D x
theorem cw_some {D : World → Prop} {w : World} (h : D w) : Nonempty (CW D) := ⟨⟨w, h⟩⟩
theorem wp_region_mkP {P : Program} {id : Nat} {R : Exit → Act → World → Prop} {a0 : Act} {w : World} {l : List Oper} (rd : List Nat) (ords : List (List Nat)) (n : Nat) (lr : List Oper) (D : World → Prop)
    (hm : P.follows .mixedOrders = true) (hB : mkB l rd ords n = true) (hlr : rd.filterMap (fun r => l[r]?) = lr) (hmx : maxB l a0.tmps.size = true) (hD : D w.drew)
    (hrd : wpQuiet P l.toArray (fun y => ∃ n : CW D, y = n.x) (fun A => wpTree P l rd ords D (fun A x => R .normal A x) n [] A w.drew) lr a0) :
    (Code.region id l.toArray true).wp P R a0 w :=
  wp_region_mkC rd ords n lr (fun y => ∃ n : CW D, y = n.x) hm hB hlr hmx ⟨⟨w.drew, hD⟩, rfl⟩ (wpQuiet_mono (fun A h => wpTree_mono (fun x hx => ⟨⟨x, hx⟩, rfl⟩) _ _ _ _ h) lr a0 hrd)
section
variable {P : Program} {l : List Oper} {rd : List Nat} {ords : List (List Nat)} {C : World → Prop} {N : Act → World → Prop} {n : Nat} {p : List Nat} {A : Act} {x : World}
theorem tree1 (k : Nat) (hk : nexts ords p = [k]) {o : Oper} (ho : l[k]? = some o) (h : Does P o A.eval x (fun v x' => (fullB l rd k = false → C x') ∧ wpTree P l rd ords C N n (p ++ [k]) (A.put o.dst v) x')) : wpTree P l rd ords C N (n + 1) p A x := by
  intro k' hk' o' ho'
  rw [hk, List.mem_singleton] at hk'
  subst hk'
  rw [ho] at ho'
  injection ho' with ho'
  subst ho'
  exact h
theorem tree_run (k : Nat) (hk : nexts ords p = [k]) {o : Oper} (ho : l[k]? = some o) {v : Value} {x' : World} (hr : (execOp A.eval o).run P x = .ok (.value v) x') (hC : C x') (h : wpTree P l rd ords C N n (p ++ [k]) (A.put o.dst v) x') : wpTree P l rd ords C N (n + 1) p A x :=
  tree1 k hk ho (does_value hr ⟨fun _ => hC, h⟩)
theorem tree_skipF (k : Nat) (hk : nexts ords p = [k]) {o : Oper} (ho : l[k]? = some o) (hf : fullB l rd k = true) {x' : World} (hr : (execOp A.eval o).run P x = .ok .skip x') (h : wpTree P l rd ords C N n (p ++ [k]) (A.put o.dst undef) x') : wpTree P l rd ords C N (n + 1) p A x :=
  tree1 k hk ho (does_skip hr ⟨fun e => (by rw [hf] at e; cases e), h⟩)
theorem run_fn {o : Oper} (f : FuncId) (ars : Array Operand) (ts : Array TypeId) (ho : o.op = .call { callee := .value (.func f), args := ars, argTypes := ts }) (hen : ∀ (args : Array Value) (x : World), (callFunc f args).run P x = .ok (.enter f args) x) {vs : Array Value} (hv : ars.map A.eval = vs) : (execOp A.eval o).run P x = .ok (.enter f vs) x := by
  obtain ⟨dst, op, ty, ps, af, g⟩ := o
  have ho : op = _ := ho
  subst ho
  show (callFunc f (#[] ++ (ars.map A.eval) ++ #[])).run P x = _
  rw [hv, Array.append_empty, Array.empty_append, hen]
theorem tree_call (k : Nat) (hk : nexts ords p = [k]) {o : Oper} (ho : l[k]? = some o) {f : FuncId} {vs : Array Value} (hr : (execOp A.eval o).run P x = .ok (.enter f vs) x) {G : Value → World → Prop} (hc : Calls P f vs x fun e x' => ∃ v, e = .returned v ∧ G v x') (h : ∀ v x', G v x' → C x' ∧ wpTree P l rd ords C N n (p ++ [k]) (A.put o.dst v) x') : wpTree P l rd ords C N (n + 1) p A x :=
  tree1 k hk ho (does_call hr (hc.mono fun e x' ⟨v, h1, h2⟩ => ⟨v, h1, fun _ => (h v x' h2).1, (h v x' h2).2⟩))
theorem tree_nil (h : N A x) : wpTree P l rd ords C N 0 p A x := h
end
end Go.Proofs.YtieojgblamkgoaaGreatDoor
/- rank: which places stand for those that windows reach. -/
namespace Go.Proofs.YtieojgblamkgoaaGreatDoor
open Go.RowKit
end Go.Proofs.YtieojgblamkgoaaGreatDoor
