/- Planes turned: the program's Turn. -/
import Derived.Test.YtieojgblamkgoaaGreatDoorG6d65d0b3
import Derived.Deep.RegionWith
import Derived.Test.YtieojgblamkgoaaGreatDoorG6b52728e
import Derived.Test.YtieojgblamkgoaaGreatDoorG9091cff6
import Derived.Test.YtieojgblamkgoaaGreatDoorG9aa7668d
import Derived.Test.YtieojgblamkgoaaGreatDoorG067d5bf2
import Derived.Test.YtieojgblamkgoaaGreatDoorGc72c0315
import Derived.Test.YtieojgblamkgoaaGreatDoorG00d82094
import Derived.Test.YtieojgblamkgoaaGreatDoorGb82cbb4e
import Derived.Test.YtieojgblamkgoaaGreatDoorGbdcda1a8
import Derived.Test.YtieojgblamkgoaaGreatDoorG829ae80f
import Derived.Test.YtieojgblamkgoaaGreatDoorGa4f48a42
namespace Go.Proofs.YtieojgblamkgoaaGreatDoor
open Go.RowKit
end Go.Proofs.YtieojgblamkgoaaGreatDoor
/- Planes made greater: the program's Extend; Get. -/
namespace Go.Proofs.YtieojgblamkgoaaGreatDoor
open Go.RowKit
set_option linter.unusedVariables false
set_option linter.unusedSimpArgs false

end Go.Proofs.YtieojgblamkgoaaGreatDoor
/- Planes held against one another: the document's Equal. -/
namespace Go.Proofs.YtieojgblamkgoaaGreatDoor
open Go.RowKit
set_option linter.unusedVariables false
set_option linter.unusedSimpArgs false

end Go.Proofs.YtieojgblamkgoaaGreatDoor
/- The chapter's examples. -/
namespace Go.Proofs.YtieojgblamkgoaaGreatDoor
open Go.RowKit
end Go.Proofs.YtieojgblamkgoaaGreatDoor
/- The chapter's examples, all of them. -/
namespace Go.Proofs.YtieojgblamkgoaaGreatDoor
open Go.RowKit
set_option linter.unusedVariables false
set_option linter.unusedSimpArgs false

end Go.Proofs.YtieojgblamkgoaaGreatDoor
/- Errors as numbers; answers held against the document's. -/
namespace Go.Proofs.YtieojgblamkgoaaGreatDoor
open Go.RowKit
end Go.Proofs.YtieojgblamkgoaaGreatDoor
/- What is said of borders without the document's answer. -/
namespace Go.Proofs.YtieojgblamkgoaaGreatDoor
open Go.RowKit
set_option linter.unusedVariables false
set_option linter.unusedSimpArgs false

end Go.Proofs.YtieojgblamkgoaaGreatDoor
/- Planes, whole: what is done with them, as functions of lists. -/
namespace Go.Proofs.YtieojgblamkgoaaGreatDoor
open Go.RowKit
set_option linter.unusedVariables false
set_option linter.unusedSimpArgs false

/-- A plane that may be, lying somewhere. -/
structure Pl (w : World) (g o n cap a b : Nat) (S : List Nat) : Prop where
  size : Size a b
  len : S.length = a * b
  eq : n = S.length
  room : n ≤ cap
  us : UIs w g o S
theorem Pl.next {w w' : World} {g o n cap a b : Nat} {S : List Nat} (h : Pl w g o n cap a b S) (q : Q w w') : Pl w' g o n cap a b S := ⟨h.size, h.len, h.eq, h.room, h.us.next q⟩
theorem Pl.usl {w : World} {g o n cap a b : Nat} {S : List Nat} (h : Pl w g o n cap a b S) : USl w (.slice (some ⟨g, o, none⟩) n cap) S := by
  have e := h.eq
  subst e
  exact h.us.usl h.room
/-- A plane that was made. -/
def Mk (w : World) (a b : Nat) (S : List Nat) (e : Ending) (w' : World) : Prop := ∃ g n, e = .returned (.tuple #[.agg #[.int .i64 (a : Int), .int .i64 (b : Int), .slice (some ⟨g, 0, none⟩) n n], .int .i64 0]) ∧ Q w w' ∧ w.heap.size ≤ g ∧ (∀ j, w'.frozen? ⟨g, j, none⟩ = false) ∧ Hid (Pl w' g 0 n n a b S)
theorem Made.mk {w : World} {a b : Nat} {S : List Nat} {e : Ending} {w' : World} (h : Made w a b S e w') (hs : Size a b) (hl : S.length = a * b) : Mk w a b S e w' := by
  obtain ⟨g, rfl, ho⟩ := h
  exact ⟨g, a * b, rfl, ho.q, ho.new, ho.free, ⟨hs, hl, hl.symm, Nat.le_refl _, ho.cells⟩⟩
def crL (a x0 y0 c d : Nat) (S : List Nat) : List Nat := tab c d fun x y => smp S a (x0 + x) (y0 + y)
theorem pl_crop {w : World} {g o n cap a b : Nat} {S : List Nat} (h : Pl w g o n cap a b S) {x0 y0 c d : Nat} (hr : Rct a b x0 y0 c d) (XX YY : Int) (hXX : XX = (x0 + c : Nat)) (hYY : YY = (y0 + d : Nat)) :
    Calls Tryz.prog 66 #[.agg #[.int .i64 (a : Int), .int .i64 (b : Int), .slice (some ⟨g, o, none⟩) n cap], .agg #[.int .i64 (x0 : Int), .int .i64 (y0 : Int), .int .i64 XX, .int .i64 YY]] w (Mk w c d (crL a x0 y0 c d S)) := by
  have e := h.eq
  subst e
  exact (crop_good h.size h.len g o cap hr XX YY hXX hYY w h.us).mono fun e w' hm => hm.mk (hr.size h.size) (tab_length _ _ _)
end Go.Proofs.YtieojgblamkgoaaGreatDoor
/- Pieces of planes, pasted, cropped, extended. -/
namespace Go.Proofs.YtieojgblamkgoaaGreatDoor
open Go.RowKit
set_option linter.unusedVariables false
set_option linter.unusedSimpArgs false

end Go.Proofs.YtieojgblamkgoaaGreatDoor
/- stat: Add. -/
namespace Go.Proofs.YtieojgblamkgoaaGreatDoor
open Go.RowKit
set_option linter.unusedVariables false
set_option linter.unusedSimpArgs false

theorem mem_of_getD {L : List Nat} (h : ∀ i, L.getD i 0 < 4294967296) : ∀ s ∈ L, s < 4294967296 := by
  intro s hs
  obtain ⟨i, hi, rfl⟩ := List.getElem_of_mem hs
  have := h i
  rw [List.getD_eq_getElem?_getD, List.getElem?_eq_getElem hi] at this
  exact this
theorem usl_fb {w w' : World} {A : Nat} {u : Value} {L : List Nat} (h : USl w u L) (f : Fb A w w') (hA : ∀ g o c, u = .slice (some ⟨g, o, none⟩) L.length c → g ≠ A) : USl w' u L := by
  rcases h with ⟨g, o, c, e, hc, hI⟩ | hx
  · exact Or.inl ⟨g, o, c, e, hc, fun i hi => f.cell (hI i hi) (hA g o c e)⟩
  · exact Or.inr hx
theorem usl_fr {w w' : World} {R : Nat → Prop} {u : Value} {L : List Nat} (h : USl w u L) (f : Fr w w' R) (hA : ∀ g o c, u = .slice (some ⟨g, o, none⟩) L.length c → R g) : USl w' u L := by
  rcases h with ⟨g, o, c, e, hc, hI⟩ | hx
  · exact Or.inl ⟨g, o, c, e, hc, fun i hi => f.cell (hI i hi) (hA g o c e)⟩
  · exact Or.inr hx
set_option maxHeartbeats 4000000 in
set_option maxRecDepth 100000 in
theorem sadd_good (P A H b kc : Nat) (L : List Nat) (w : World) (h : StAt w P A H b kc L) {g o n cap pa pb : Nat} {S : List Nat} (hp : Pl w g o n cap pa pb S) {x0 y0 c d : Nat} (hr : Rct pa pb x0 y0 c d) (XX YY : Int) (hXX : XX = (x0 + c : Nat)) (hYY : YY = (y0 + d : Nat))
    (hCb : ∀ i, (crL pa x0 y0 c d S).getD i 0 < 4294967296) (hL : L.length ≤ 1000000) :
    Calls Tryz.prog 35 #[.pointer (some ⟨P, 0, none⟩), .agg #[.int .i64 (pa : Int), .int .i64 (pb : Int), .slice (some ⟨g, o, none⟩) n cap], .agg #[.int .i64 (x0 : Int), .int .i64 (y0 : Int), .int .i64 XX, .int .i64 YY]] w fun e w' => e = .returned (.int .i64 0) ∧ StAt w' P A H b kc (L ++ crL pa x0 y0 c d S) ∧ Fr w w' (stB P A H) := by
  obtain ⟨w1, hw1⟩ : ∃ w1, (w.alloc (.cells #[.int .i64 (pa : Int), .int .i64 (pb : Int), .slice (some ⟨g, o, none⟩) n cap] 26)).alloc (.cells #[.int .i64 (x0 : Int), .int .i64 (y0 : Int), .int .i64 XX, .int .i64 YY] 28) = w1 := ⟨_, rfl⟩
  have q1 : Q w w1 := by rw [← hw1]; exact ((Q.refl w).cells _ _).cells _ _
  have z00 : w1.cell? ⟨w.heap.size, 0, none⟩ = some (.int .i64 (pa : Int)) := by rw [← hw1]; simp [go_sem]
  have z01 : w1.cell? ⟨w.heap.size, 1, none⟩ = some (.int .i64 (pb : Int)) := by rw [← hw1]; simp [go_sem]
  have z02 : w1.cell? ⟨w.heap.size, 2, none⟩ = some (.slice (some ⟨g, o, none⟩) n cap) := by rw [← hw1]; simp [go_sem]
  have z10 : w1.cell? ⟨w.heap.size + 1, 0, none⟩ = some (.int .i64 (x0 : Int)) := by rw [← hw1]; simp [go_sem]
  have z11 : w1.cell? ⟨w.heap.size + 1, 1, none⟩ = some (.int .i64 (y0 : Int)) := by rw [← hw1]; simp [go_sem]
  have z12 : w1.cell? ⟨w.heap.size + 1, 2, none⟩ = some (.int .i64 XX) := by rw [← hw1]; simp [go_sem]
  have z13 : w1.cell? ⟨w.heap.size + 1, 3, none⟩ = some (.int .i64 YY) := by rw [← hw1]; simp [go_sem]
  have K := pl_crop (hp.next q1) hr XX YY hXX hYY
  have HQ1 : Hid (Q w w1) := q1
  have HS : Hid (StAt w P A H b kc L) := h
  have HC0 : Hid (1 ≤ b ∧ b ≤ 12 ∧ 2 ^ b ≤ kc ∧ P ≠ A ∧ P ≠ H ∧ A ≠ H) := ⟨h.b1, h.b2, h.cap, h.pa, h.ph, h.ah⟩
  have hCl : (crL pa x0 y0 c d S).length ≤ 65536 := by have := (hr.size hp.size).ab; unfold crL; rw [tab_length]; omega
  generalize crL pa x0 y0 c d S = C at *
  clear h hp hr hXX hYY
  go_enter Tryz.func35, Tryz.ntmps35
  go_wp2_with fail
  refine K.mono ?_
  rintro e w2 ⟨g2, n2, rfl, q2, l2, f2, hP2⟩
  clear hw1 z00 z01 z02 z10 z11 z12 z13 K
  have hn2 := hP2.out.eq
  subst hn2
  obtain ⟨w3, hw3⟩ : ∃ w3, w2.alloc (.cells #[.int .i64 (c : Int), .int .i64 (d : Int), .slice (some ⟨g2, 0, none⟩) C.length C.length] 26) = w3 := ⟨_, rfl⟩
  have q3 : Q w2 w3 := by rw [← hw3]; exact (Q.refl w2).cells _ _
  have y2 : w3.cell? ⟨w2.heap.size, 2, none⟩ = some (.slice (some ⟨g2, 0, none⟩) C.length C.length) := by rw [← hw3]; simp [go_sem]
  obtain ⟨B, hB⟩ : ∃ B, w2.heap.size = B := ⟨_, rfl⟩
  rw [hB] at y2
  have hsz : w.heap.size ≤ w1.heap.size := q1.1.size
  have hsz2 : w1.heap.size ≤ w2.heap.size := q2.1.size
  have hBw : w.heap.size ≤ B := by omega
  have hgw : w.heap.size ≤ g2 := by omega
  have hU : USl w3 (.slice (some ⟨g2, 0, none⟩) C.length C.length) C := hP2.out.usl.next q3
  have HQ3 : Hid (Q w w3) := (q1.trans q2).trans q3
  have hlt := HS.out.lt
  have hneB : B ≠ P ∧ B ≠ A ∧ B ≠ H ∧ g2 ≠ P ∧ g2 ≠ A ∧ g2 ≠ H := by omega
  clear q1 q2 q3 hP2 f2 l2 HQ1 hsz hsz2
  go_wp2_with fail
  clear hw3 hB
  refine (wnan_any _ C _ hU hCb hCl).mono ?_
  rintro e w4 ⟨u, rfl, hu, hug, q4⟩
  obtain ⟨ua, uc, rfl⟩ := hu.form
  have hsz4 : w.heap.size ≤ w3.heap.size := HQ3.out.1.size
  have HUG : Hid (∀ g o c, Value.slice ua (numL C).length uc = .slice (some ⟨g, o, none⟩) (numL C).length c → g ≠ P ∧ g ≠ A ∧ g ≠ H) := fun g o c e => by have := hug g o c e; omega
  clear hug hsz4
  have y2 := q4.cell y2
  have hU4 := hU.next q4
  have HQ4 : Hid (Q w w4) := HQ3.out.trans q4
  have HS4 : Hid (StAt w4 P A H b kc L) := HS.out.next HQ4.out
  clear hU q4 HQ3 HS
  have p0 := HS4.out.p0
  have dp := qw_cell p0
  have dy := qw_cell y2
  have n0 := qw_some w4
  go_wp2_with fail
  refine wp_lastR 6 rfl _ rfl (by kernel_rfl) (by kernel_rfl) (by kernel_rfl) ?_
  simp only [List.take_succ_cons, List.take_zero]
  repeat (first | go_big_quiet_step (fail) | quiet_step (fail))
  refine wpQuiet_nil ?_
  intro nn K hK
  clear dp dy n0 p0
  have y2 := nn.q.cell y2
  have hU5 := hU4.next nn.q
  have hu5 := hu.next nn.q
  have HQ5 : Hid (Q w nn.x) := HQ4.out.trans nn.q
  have HS5 : Hid (StAt nn.x P A H b kc L) := HS4.out.next nn.q
  clear hU4 hu HQ4 HS4
  obtain ⟨N, hacc⟩ := HS5.out.acc
  generalize nn.x = w5 at *
  go_wp2_with fail
  refine (acc_add _ C L A L.length N _ hacc hU5 (fun g' o' cap' _ e => by injection e with e; injection e with e; injection e with e; omega) hCb (by omega)).mono ?_
  rintro e w6 ⟨rfl, hA6, f6⟩
  have y2 := f6.cell y2 hneB.2.1
  have hU6 : USl w6 (.slice (some ⟨g2, 0, none⟩) C.length C.length) C := usl_fb hU5 f6 (fun g' o' c' e => by injection e with e; injection e with e; injection e with e; omega)
  have HF6 : Hid (Fr w w6 (stB P A H)) := (HQ5.out.fr _).trans ⟨f6.os, f6.tape, f6.output, f6.size, fun x hx hr => f6.block x hx hr.2.1, f6.frz⟩
  have hT6 : VR w6 H (2 ^ b) (fun j => .int .i64 ((clsC b L j : Nat) : Int)) := ⟨fun i hi => f6.cell (HS5.out.tal.cell i hi) (fun e => HS5.out.ah e.symm), fun j => (f6.frz _).trans (HS5.out.tal.free j)⟩
  have p1 := f6.cell HS5.out.p1 HS5.out.pa
  have p2 := f6.cell HS5.out.p2 HS5.out.pa
  have p3 := f6.cell HS5.out.p3 HS5.out.pa
  have p4 := f6.cell HS5.out.p4 HS5.out.pa
  have p5 := f6.cell HS5.out.p5 HS5.out.pa
  have p0 := f6.cell HS5.out.p0 HS5.out.pa
  have HZ6 : Hid (∀ j, w6.frozen? ⟨P, j, none⟩ = false) := fun j => (f6.frz _).trans (HS5.out.fz j)
  have hu6 : USl w6 (.slice ua (numL C).length uc) (numL C) := usl_fb hu5 f6 (fun g' o' c' e => (HUG.out g' o' c' e).2.1)
  clear hU5 hu5 f6 HQ5 hacc HS5
  have dp1 := qw_cell p1
  have dp2 := qw_cell p2
  have dy := qw_cell y2
  have n0 := qw_some w6
  go_wp2_with fail
  refine wp_lastR 6 rfl _ rfl (by kernel_rfl) (by kernel_rfl) (by kernel_rfl) ?_
  simp only [List.take_succ_cons, List.take_zero]
  repeat (first | go_big_quiet_step (fail) | quiet_step (fail))
  refine wpQuiet_nil ?_
  intro n2 K2 hK2
  clear dp1 dp2 dy n0
  have y2 := n2.q.cell y2
  have p0 := n2.q.cell p0
  have p1 := n2.q.cell p1
  have p2 := n2.q.cell p2
  have p3 := n2.q.cell p3
  have p4 := n2.q.cell p4
  have p5 := n2.q.cell p5
  have hU7 := hU6.next n2.q
  have hu7 := hu6.next n2.q
  have hT7 := hT6.next n2.q
  have HA7 : Hid (AccAt n2.x A (L ++ C)) := by
    obtain ⟨N', h'⟩ := hA6
    refine AccAt.next ⟨N', ?_⟩ n2.q
    rw [List.length_append]; exact h'
  have HZ7 : Hid (∀ j, n2.x.frozen? ⟨P, j, none⟩ = false) := fun j => by rw [n2.q.2]; exact HZ6.out j
  have HF7 : Hid (Fr w n2.x (stB P A H)) := HF6.out.trans (n2.q.fr _)
  clear hU6 hu6 hT6 hA6 HZ6 HF6
  generalize n2.x = w7 at *
  have hcl : ∀ j, clsC b L j ≤ 35184372087808 := fun j => by have := clsC_le b L j; omega
  have KT := tadd_any b H kc (clsC b L) _ C w7 HC0.out.1 HC0.out.2.1 hT7 HC0.out.2.2.1 hcl hU7 (fun g' o' c' _ e => by injection e with e; injection e with e; injection e with e; omega) hCb hCl
  unfold talV at KT
  clear hT7 hcl
  go_wp2_with fail
  refine KT.mono ?_
  rintro e w8 ⟨rfl, hT8, f8⟩
  clear KT
  have hPH := HC0.out.2.2.2.2.1
  have y2 := f8.cell y2 hneB.2.2.1
  have p0 := f8.cell p0 hPH
  have p1 := f8.cell p1 hPH
  have p2 := f8.cell p2 hPH
  have p3 := f8.cell p3 hPH
  have p4 := f8.cell p4 hPH
  have p5 := f8.cell p5 hPH
  have hu8 : USl w8 (.slice ua (numL C).length uc) (numL C) := usl_fb hu7 f8 (fun g' o' c' e => (HUG.out g' o' c' e).2.2)
  have HA8 : Hid (AccAt w8 A (L ++ C)) := HA7.out.far f8 HC0.out.2.2.2.2.2
  have HZ8 : Hid (∀ j, w8.frozen? ⟨P, j, none⟩ = false) := fun j => (f8.frz _).trans (HZ7.out j)
  have HF8 : Hid (Fr w w8 (stB P A H)) := HF7.out.trans ⟨f8.os, f8.tape, f8.output, f8.size, fun x hx hr => f8.block x hx hr.2.2, f8.frz⟩
  have HT8 : Hid (VR w8 H (2 ^ b) (fun j => .int .i64 ((clsC b (L ++ C) j : Nat) : Int))) := hT8.congr fun j _ => by rw [clsC_append]
  clear hU7 hu7 HA7 HZ7 HF7 f8 hT8 hPH
  have hNb : ∀ i, (numL C).getD i 0 < 4294967296 := fun i => by
    rcases Nat.lt_or_ge i (numL C).length with k | k
    · rw [List.getD_eq_getElem?_getD, List.getElem?_eq_getElem k]
      exact mem_of_getD hCb _ (numL_mem (List.getElem_mem k)).1
    · rw [List.getD_eq_getElem?_getD, List.getElem?_eq_none k]; decide
  have hNl : (numL C).length ≤ 65536 := Nat.le_trans (numL_len C) hCl
  have HSp : Hid (∀ n : QW w8, Calls Tryz.prog 70 #[.slice ua (numL C).length uc] n.x fun e w' => e = .returned (.agg #[.int .u32 (lowK C : Nat), .int .u32 (topK C : Nat)]) ∧ Q n.x w') := fun n => spanof_any _ (numL C) n.x (hu8.next n.q) hNb hNl
  have HWi : Hid (∀ n : QW w8, Calls Tryz.prog 46 #[.agg #[.int .u32 (lowK L : Nat), .int .u32 (topK L : Nat)], .agg #[.int .u32 (lowK C : Nat), .int .u32 (topK C : Nat)]] n.x fun e w' => e = .returned (.agg #[.int .u32 (lowK (L ++ C) : Nat), .int .u32 (topK (L ++ C) : Nat)]) ∧ Q n.x w') := fun n => by
    have := with_any (lowK L) (topK L) (lowK C) (topK C) n.x
    rw [← lowK_append, ← topK_append] at this
    exact this
  have dp3 := qw_cell p3
  have dp4 := qw_cell p4
  have n0 := qw_some w8
  clear hNb hNl
  go_wp2_with fail
  refine wp_lastR 10 rfl _ rfl (by kernel_rfl) (by kernel_rfl) (by kernel_rfl) ?_
  simp only [List.take_succ_cons, List.take_zero]
  repeat (first | go_big_quiet_step (first | (go_at_call 70; exact calls_qw (HSp.out _)) | (go_at_call 46; exact calls_qw (HWi.out _))) | quiet_step (first | (go_at_call 70; exact calls_qw (HSp.out _)) | (go_at_call 46; exact calls_qw (HWi.out _))))
  refine wpQuiet_nil ?_
  intro n3 K3 hK3
  clear dp3 dp4 n0 HSp HWi
  have y2 := n3.q.cell y2
  have p0 := n3.q.cell p0
  have p1 := n3.q.cell p1
  have p2 := n3.q.cell p2
  have p3 := n3.q.cell p3
  have p4 := n3.q.cell p4
  have p5 := n3.q.cell p5
  have HA9 : Hid (AccAt n3.x A (L ++ C)) := HA8.out.next n3.q
  have HZ9 : ∀ j, n3.x.frozen? ⟨P, j, none⟩ = false := fun j => by rw [n3.q.2]; exact HZ8.out j
  have HF9 : Hid (Fr w n3.x (stB P A H)) := HF8.out.trans (n3.q.fr _)
  have HT9 : Hid (VR n3.x H (2 ^ b) (fun j => .int .i64 ((clsC b (L ++ C) j : Nat) : Int))) := HT8.out.next n3.q
  clear HA8 HZ8 HF8 HT8 hu8
  generalize n3.x = w9 at *
  go_wp2_with fail
  have hnP : ∀ x, stB P A H x → P ≠ x := fun x hx e => hx.1 e.symm
  have hPA := HC0.out.2.2.2.1
  have hPH := HC0.out.2.2.2.2.1
  obtain ⟨y, hy⟩ : ∃ y, (w9.setCell ⟨P, 3, none⟩ (.int .u32 (lowK (L ++ C) : Nat))).setCell ⟨P, 4, none⟩ (.int .u32 (topK (L ++ C) : Nat)) = y := ⟨_, rfl⟩
  have cE : ∀ Bk j v, Bk ≠ P → w9.cell? ⟨Bk, j, none⟩ = some v → y.cell? ⟨Bk, j, none⟩ = some v := fun Bk j v hne hc => by
    rw [← hy, World.cell?_setCell_other _ _ _ _ (fun e => by injection e with e; omega), World.cell?_setCell_other _ _ _ _ (fun e => by injection e with e; omega)]; exact hc
  have cP : ∀ j v, j ≠ 3 → j ≠ 4 → w9.cell? ⟨P, j, none⟩ = some v → y.cell? ⟨P, j, none⟩ = some v := fun j v h3 h4 hc => by
    rw [← hy, set_off (fun e => h4 e.symm), set_off (fun e => h3 e.symm)]; exact hc
  have y2 := cE B 2 _ hneB.1 y2
  have p0' := cP 0 _ (by decide) (by decide) p0
  have p1' := cP 1 _ (by decide) (by decide) p1
  have p2' := cP 2 _ (by decide) (by decide) p2
  have p5' := cP 5 _ (by decide) (by decide) p5
  have p4' : y.cell? ⟨P, 4, none⟩ = some (.int .u32 (topK (L ++ C) : Nat)) := by
    rw [← hy]; exact set_same (u := .int .u32 (topK L : Nat)) (by rw [set_off (by decide)]; exact p4)
  have p3' : y.cell? ⟨P, 3, none⟩ = some (.int .u32 (lowK (L ++ C) : Nat)) := by
    rw [← hy, set_off (by decide)]; exact set_same p3
  have fzy : ∀ a : Addr, y.frozen? a = w9.frozen? a := fun a => by rw [← hy, World.frozen?_setCell, World.frozen?_setCell]
  have HAy : Hid (AccAt y A (L ++ C)) := by
    obtain ⟨N', h'⟩ := HA9
    exact ⟨N', fun j hj => cE A j _ (fun e => hPA e.symm) (h'.n j hj), h'.r, cE A 5 _ (fun e => hPA e.symm) h'.m, cE A 6 _ (fun e => hPA e.symm) h'.c, fun j => (fzy _).trans (h'.z j)⟩
  have HTy : Hid (VR y H (2 ^ b) (fun j => .int .i64 ((clsC b (L ++ C) j : Nat) : Int))) := ⟨fun j hj => cE H j _ (fun e => hPH e.symm) (HT9.out.cell j hj), fun j => (fzy _).trans (HT9.out.free j)⟩
  have HZy : Hid (∀ j, y.frozen? ⟨P, j, none⟩ = false) := fun j => (fzy _).trans (HZ9 j)
  have HFy : Hid (Fr w y (stB P A H)) := by
    show Fr w y (stB P A H)
    rw [← hy]
    exact (HF9.out.set (fun e => e.1 rfl) _).set (fun e => e.1 rfl) _
  rw [hy]
  clear hy cE cP p0 p1 p2 p3 p4 p5 fzy HA9 HT9 HZ9 HF9
  have hnn := num_nan C
  have hnl := clsC_le b L 0
  have hnc : nanC L ≤ L.length := List.countP_le_length
  have e1 : wrap64 ((C.length : Int) - ((numL C).length : Int)) = (nanC C : Int) := by unfold wrap64; omega
  have e2 : wrap64 ((nanC L : Int) + (nanC C : Int)) = ((nanC (L ++ C) : Nat) : Int) := by rw [nanC_append]; unfold wrap64; omega
  have dp5 := qw_cell p5'
  have dy := qw_cell y2
  have n0 := qw_some y
  refine wp_lastR 13 rfl _ rfl (by kernel_rfl) (by kernel_rfl) (by kernel_rfl) ?_
  simp only [List.take_succ_cons, List.take_zero]
  repeat (first | go_big_quiet_step (fail) | quiet_step (fail))
  refine wpQuiet_nil ?_
  intro n4 K4 hK4
  clear dp5 dy n0
  have p0 := n4.q.cell p0'
  have p1 := n4.q.cell p1'
  have p2 := n4.q.cell p2'
  have p3 := n4.q.cell p3'
  have p4 := n4.q.cell p4'
  have p5 := n4.q.cell p5'
  have HAz : Hid (AccAt n4.x A (L ++ C)) := HAy.out.next n4.q
  have HZz : ∀ j, n4.x.frozen? ⟨P, j, none⟩ = false := fun j => by rw [n4.q.2]; exact HZy.out j
  have HFz : Hid (Fr w n4.x (stB P A H)) := HFy.out.trans (n4.q.fr _)
  have HTz : Hid (VR n4.x H (2 ^ b) (fun j => .int .i64 ((clsC b (L ++ C) j : Nat) : Int))) := HTy.out.next n4.q
  clear HAy HZy HFy HTy p0' p1' p2' p3' p4' p5'
  generalize n4.x = z at *
  go_wp2_with fail
  go_ret
  refine ⟨rfl, ?_, HFz.out.set (fun e => e.1 rfl) _⟩
  have cE : ∀ Bk j v u, Bk ≠ P → z.cell? ⟨Bk, j, none⟩ = some v → (z.setCell ⟨P, 5, none⟩ u).cell? ⟨Bk, j, none⟩ = some v := fun Bk j v u hne hc => by
    rw [World.cell?_setCell_other _ _ _ _ (fun e => by injection e with e; omega)]; exact hc
  refine ⟨HC0.out.1, HC0.out.2.1, ?_, ?_, ?_, ?_, ?_, ?_, ?_, ?_, ?_, HC0.out.2.2.1, hPA, hPH, HC0.out.2.2.2.2.2⟩
  · rw [set_off (by decide)]; exact p0
  · rw [set_off (by decide)]; exact p1
  · rw [set_off (by decide)]; exact p2
  · rw [set_off (by decide)]; exact p3
  · rw [set_off (by decide)]; exact p4
  · have e3 : ((nanC L : Int) + ((C.length : Int) - ((numL C).length : Int))) = ((nanC (L ++ C) : Nat) : Int) := by rw [nanC_append]; omega
    rw [e3]; exact set_same p5
  · intro j; rw [World.frozen?_setCell]; exact HZz j
  · obtain ⟨N', h'⟩ := HAz
    exact ⟨N', fun j hj => cE A j _ _ (fun e => hPA e.symm) (h'.n j hj), h'.r, cE A 5 _ _ (fun e => hPA e.symm) h'.m, cE A 6 _ _ (fun e => hPA e.symm) h'.c, fun j => by rw [World.frozen?_setCell]; exact h'.z j⟩
  · exact ⟨fun j hj => cE H j _ _ (fun e => hPH e.symm) (HTz.out.cell j hj), fun j => by rw [World.frozen?_setCell]; exact HTz.out.free j⟩
end Go.Proofs.YtieojgblamkgoaaGreatDoor
/- stat: Merge. -/
namespace Go.Proofs.YtieojgblamkgoaaGreatDoor
open Go.RowKit
set_option linter.unusedVariables false
set_option linter.unusedSimpArgs false

/-- Counts, of which the first have been put together. -/
def mgV (c c' : Nat → Nat) (i j : Nat) : Nat := if j < i then c j + c' j else c j
theorem mgV_zero (c c' : Nat → Nat) (j : Nat) : mgV c c' 0 j = c j := by unfold mgV; rw [if_neg (by omega)]
theorem mgV_at (c c' : Nat → Nat) (i : Nat) : mgV c c' i i = c i := by unfold mgV; rw [if_neg (by omega)]
theorem mgV_next (c c' : Nat → Nat) (i : Nat) : mgV c c' (i + 1) i = c i + c' i := by unfold mgV; rw [if_pos (by omega)]
theorem mgV_other (c c' : Nat → Nat) {i j : Nat} (h : j ≠ i) : mgV c c' (i + 1) j = mgV c c' i j := by
  unfold mgV
  by_cases k : j < i
  · rw [if_pos k, if_pos (by omega)]
  · rw [if_neg k, if_neg (by omega)]
theorem mgV_all {c c' : Nat → Nat} {n j : Nat} (h : j < n) : mgV c c' n j = c j + c' j := by unfold mgV; rw [if_pos h]
set_option maxHeartbeats 4000000 in
set_option maxRecDepth 100000 in
theorem tmerge_any (b H kc b' H' kc' : Nat) (c c' : Nat → Nat) (w : World) (h2 : b ≤ 12) (hT : VR w H (2 ^ b) (fun j => .int .i64 (c j : Nat))) (hR : ∀ wr i, i < 2 ^ b → Fb H w wr → VR wr H (2 ^ b) (fun j => .int .i64 (mgV c c' i j : Nat)) → wr.cell? ⟨H', i, none⟩ = some (.int .i64 (c' i : Nat)))
    (hcap : 2 ^ b ≤ kc) (hcap' : 2 ^ b ≤ kc') (hc : ∀ j, c j ≤ 35184372087808) (hc' : ∀ j, c' j ≤ 35184372087808) :
    Calls Tryz.prog 45 #[talV b H kc, .agg #[.int .i64 (b' : Int), .slice (some ⟨H', 0, none⟩) (2 ^ b) kc']] w fun e w' => e = .returned (.tuple #[]) ∧ VR w' H (2 ^ b) (fun j => .int .i64 ((c j + c' j : Nat) : Int)) ∧ Fb H w w' := by
  have hp : 2 ^ b ≤ 2 ^ 12 := Nat.pow_le_pow_right (by decide) h2
  have hp1 : 1 ≤ 2 ^ b := Nat.one_le_two_pow
  obtain ⟨w1, hw1⟩ : ∃ w1, (w.alloc (.cells #[.int .i64 (b : Int), .slice (some ⟨H, 0, none⟩) (2 ^ b) kc] 72)).alloc (.cells #[.int .i64 (b' : Int), .slice (some ⟨H', 0, none⟩) (2 ^ b) kc'] 72) = w1 := ⟨_, rfl⟩
  obtain ⟨A, hA⟩ : ∃ A, w.heap.size = A := ⟨_, rfl⟩
  have q1 : Q w w1 := by rw [← hw1]; exact ((Q.refl w).cells _ _).cells _ _
  have z1 : w1.cell? ⟨A, 1, none⟩ = some (.slice (some ⟨H, 0, none⟩) (2 ^ b) kc) := by rw [← hw1, ← hA]; simp [go_sem]
  have y1 : w1.cell? ⟨A + 1, 1, none⟩ = some (.slice (some ⟨H', 0, none⟩) (2 ^ b) kc') := by rw [← hw1, ← hA]; simp [go_sem]
  have hHA : H < A := by have := hT.lt hp1; omega
  have H0 : Hid (VR w1 H (2 ^ b) (fun j => .int .i64 (mgV c c' 0 j : Nat)) ∧ Fb H w w1) := ⟨(hT.next q1).congr fun j _ => by rw [mgV_zero], q1.fb H⟩
  have HZ : Hid (∀ wr, Fb H w1 wr → wr.cell? ⟨A, 1, none⟩ = some (.slice (some ⟨H, 0, none⟩) (2 ^ b) kc)) := fun wr f => f.cell z1 (show A ≠ H by omega)
  have HR : Hid _ := hR
  have HB : Hid (∀ j, c j ≤ 35184372087808 ∧ c' j ≤ 35184372087808) := fun j => ⟨hc j, hc' j⟩
  have HF1 : Hid (Fb H w w1) := q1.fb H
  clear hT hR hc hc' z1 q1
  unfold talV
  generalize 2 ^ b = N at *
  go_enter Tryz.func45, Tryz.ntmps45
  go_wp2_with fail
  clear hw1 y1
  go_loopg [9] N (fun m s9 wr => ∃ i : Nat, s9 = .int .i64 (i : Int) ∧ i + m = N ∧ Hid (VR wr H N (fun j => .int .i64 (mgV c c' i j : Nat)) ∧ Fb H w1 wr))
  case atStart => exact ⟨0, rfl, by omega, H0.out.1, Fb.refl _ _⟩
  case round =>
    clear H0
    obtain ⟨i, rfl, hi, HX⟩ := hrel
    by_cases hlt : i < N
    · have cR := HR.out wr i hlt (HF1.out.trans HX.out.2) HX.out.1
      have cL := HX.out.1.cell i hlt
      rw [mgV_at] at cL
      have fz := HX.out.1.free i
      have cz := HZ.out wr HX.out.2
      have hb := HB.out i
      have HY : Hid (VR (wr.setCell ⟨H, i, none⟩ (.int .i64 ((c i + c' i : Nat) : Int))) H N (fun j => .int .i64 (mgV c c' (i + 1) j : Nat)) ∧ Fb H w1 (wr.setCell ⟨H, i, none⟩ (.int .i64 ((c i + c' i : Nat) : Int)))) := ⟨HX.out.1.put hlt (by rw [mgV_next]) (fun j hj hne => by rw [mgV_other _ _ hne]), HX.out.2.set rfl _⟩
      have hki : (i : Int) < (N : Int) := by omega
      generalize c i = p at *
      generalize c' i = q at *
      clear HX
      go_wp2_with fail
      go_roundg (N - (i + 1))
      case measure => go_light; omega
      case rel => go_light; exact ⟨i + 1, by go_num, by omega, HY⟩
    · obtain rfl : i = N := by omega
      have hge : ¬ (i : Int) < (i : Int) := by omega
      go_wp2_with fail
      refine bodyPost_end (results_none Tryz.results45 _ _ _) rfl ⟨rfl, HX.out.1.congr (fun j hj => by simp [mgV_all hj]), HF1.out.trans HX.out.2⟩
set_option maxHeartbeats 4000000 in
set_option maxRecDepth 100000 in
theorem smerge_bad (P A H b kc P' A' H' b' kc' : Nat) (L L' : List Nat) (w : World) (h : StAt w P A H b kc L) (h' : StAt w P' A' H' b' kc' L') (hb : b ≠ b') :
    Calls Tryz.prog 13 #[.pointer (some ⟨P, 0, none⟩), .pointer (some ⟨P', 0, none⟩)] w fun e w' => e = .returned (.int .i64 160) ∧ Q w w' := by
  have p1 := h.p1
  have p1' := h'.p1
  have d0 := qw_cell p1
  have d1 := qw_cell p1'
  have n0 := qw_some w
  have hne : ((b : Int) != (b' : Int)) = true := by simp; omega
  clear h h'
  go_enter Tryz.func13, Tryz.ntmps13
  go_wp2_with fail
  refine wp_region_quiet_Q (by kernel_rfl) (by kernel_rfl) ?_
  repeat (first | go_big_quiet_step (fail) | quiet_step (fail))
  refine wpQuiet_nil ?_
  intro w4 hw'
  have hq4 := qw_out hw'
  go_wp2_with fail
  go_ret
  exact ⟨rfl, hq4⟩
theorem vr_same {w : World} {H n : Nat} {c c' : Nat → Nat} (h : VR w H n (fun j => .int .i64 (c j : Nat))) (h' : VR w H n (fun j => .int .i64 (c' j : Nat))) {j : Nat} (hj : j < n) : c' j = c j := by
  have e := (h.cell j hj).symm.trans (h'.cell j hj)
  injection e with e
  injection e with _ e
  omega
set_option maxHeartbeats 8000000 in
set_option maxRecDepth 100000 in
theorem smerge_any (P A H b kc P' A' H' kc' : Nat) (L L' : List Nat) (w : World) (h : StAt w P A H b kc L) (h' : StAt w P' A' H' b kc' L') (hPA : P' ≠ A) (hPH : P' ≠ H) (hHA : H' ≠ A) (hL : L.length ≤ 1000000) (hL' : L'.length ≤ 1000000) :
    Calls Tryz.prog 13 #[.pointer (some ⟨P, 0, none⟩), .pointer (some ⟨P', 0, none⟩)] w fun e w' => e = .returned (.int .i64 0) ∧ StAt w' P A H b kc (L ++ L') ∧ Fr w w' (stB P A H) := by
  have p1 := h.p1
  have p1' := h'.p1
  have d0 := qw_cell p1
  have d1 := qw_cell p1'
  have n0 := qw_some w
  have hne : ((b : Int) != (b : Int)) = false := by simp
  have HC0 : Hid (1 ≤ b ∧ b ≤ 12 ∧ 2 ^ b ≤ kc ∧ P ≠ A ∧ P ≠ H ∧ A ≠ H) := ⟨h.b1, h.b2, h.cap, h.pa, h.ph, h.ah⟩
  have HC1 : Hid (2 ^ b ≤ kc') := h'.cap
  have HS : Hid (StAt w P A H b kc L) := h
  have HS' : Hid (StAt w P' A' H' b kc' L') := h'
  clear h h' p1 p1'
  go_enter Tryz.func13, Tryz.ntmps13
  go_wp2_with fail
  refine wp_region_quiet_Q (by kernel_rfl) (by kernel_rfl) ?_
  repeat (first | go_big_quiet_step (fail) | quiet_step (fail))
  refine wpQuiet_nil ?_
  intro w1 hw'
  have hq1 := qw_out hw'
  have HQ1 : Hid (Q w w1) := hq1
  have HS1 : Hid (StAt w1 P A H b kc L) := HS.out.next hq1
  have HS1' : Hid (StAt w1 P' A' H' b kc' L') := HS'.out.next hq1
  clear d0 d1 n0 hw' hq1 HS HS'
  have p0 := HS1.out.p0
  have p0' := HS1'.out.p0
  have d0 := qw_cell p0
  have d1 := qw_cell p0'
  have n0 := qw_some w1
  clear p0 p0'
  go_wp2_with fail
  refine wp_lastR 8 rfl _ rfl (by kernel_rfl) (by kernel_rfl) (by kernel_rfl) ?_
  simp only [List.take_succ_cons, List.take_zero]
  repeat (first | go_big_quiet_step (fail) | quiet_step (fail))
  refine wpQuiet_nil ?_
  intro n2 K2 hK2
  clear d0 d1 n0
  have HQ2 : Hid (Q w n2.x) := HQ1.out.trans n2.q
  have HS2 : Hid (StAt n2.x P A H b kc L) := HS1.out.next n2.q
  have HS2' : Hid (StAt n2.x P' A' H' b kc' L') := HS1'.out.next n2.q
  clear HQ1 HS1 HS1'
  generalize n2.x = w2 at *
  obtain ⟨N, hacc⟩ := HS2.out.acc
  obtain ⟨N', hacc'⟩ := HS2'.out.acc
  have KM := merge_any L L' A A' L.length L'.length N N' w2 hacc hacc' (by omega)
  clear hacc hacc'
  go_wp2_with fail
  refine Calls.mono KM ?_
  rintro e w3 ⟨rfl, hA3, f3⟩
  clear KM
  have HA3 : Hid (AccAt w3 A (L ++ L')) := ⟨_, by rw [List.length_append]; exact hA3⟩
  have HF3 : Hid (Fr w w3 (stB P A H)) := (HQ2.out.fr _).trans ⟨f3.os, f3.tape, f3.output, f3.size, fun x hx hr => f3.block x hx hr.2.1, f3.frz⟩
  have hPa := HC0.out.2.2.2.1
  have hHa : H ≠ A := fun e => HC0.out.2.2.2.2.2 e.symm
  have p0 := f3.cell HS2.out.p0 hPa
  have p1 := f3.cell HS2.out.p1 hPa
  have p2 := f3.cell HS2.out.p2 hPa
  have p3 := f3.cell HS2.out.p3 hPa
  have p4 := f3.cell HS2.out.p4 hPa
  have p5 := f3.cell HS2.out.p5 hPa
  have o1 := f3.cell HS2'.out.p1 hPA
  have o2 := f3.cell HS2'.out.p2 hPA
  have o3 := f3.cell HS2'.out.p3 hPA
  have o4 := f3.cell HS2'.out.p4 hPA
  have o5 := f3.cell HS2'.out.p5 hPA
  have hT3 : VR w3 H (2 ^ b) (fun j => .int .i64 ((clsC b L j : Nat) : Int)) := ⟨fun i hi => f3.cell (HS2.out.tal.cell i hi) hHa, fun j => (f3.frz _).trans (HS2.out.tal.free j)⟩
  have hT3' : VR w3 H' (2 ^ b) (fun j => .int .i64 ((clsC b L' j : Nat) : Int)) := ⟨fun i hi => f3.cell (HS2'.out.tal.cell i hi) hHA, fun j => (f3.frz _).trans (HS2'.out.tal.free j)⟩
  have HZ3 : Hid (∀ j, w3.frozen? ⟨P, j, none⟩ = false) := fun j => (f3.frz _).trans (HS2.out.fz j)
  clear hA3 f3 HQ2 HS2 HS2' hPa hHa
  have hcl : ∀ j, clsC b L j ≤ 35184372087808 := fun j => by have := clsC_le b L j; omega
  have hcl' : ∀ j, clsC b L' j ≤ 35184372087808 := fun j => by have := clsC_le b L' j; omega
  have HR : ∀ wr i, i < 2 ^ b → Fb H w3 wr → VR wr H (2 ^ b) (fun j => .int .i64 (mgV (clsC b L) (clsC b L') i j : Nat)) → wr.cell? ⟨H', i, none⟩ = some (.int .i64 (clsC b L' i : Nat)) := fun wr i hi f hv => by
    by_cases hh : H' = H
    · subst hh
      rw [vr_same hT3 hT3' hi, hv.cell i hi, mgV_at]
    · exact f.cell (hT3'.cell i hi) hh
  have KT : Hid _ := fun n : QW w3 => tmerge_any b H kc b H' kc' (clsC b L) (clsC b L') n.x HC0.out.2.1 (hT3.next n.q) (fun wr i hi f hv => HR wr i hi ((n.q.fb H).trans f) hv) HC0.out.2.2.1 HC1.out hcl hcl'
  clear hT3 hT3' hcl hcl' HR
  unfold talV at KT
  have dp1 := qw_cell p1
  have dp2 := qw_cell p2
  have do1 := qw_cell o1
  have do2 := qw_cell o2
  have n0 := qw_some w3
  go_wp2_with fail
  refine wp_lastR 8 rfl _ rfl (by kernel_rfl) (by kernel_rfl) (by kernel_rfl) ?_
  simp only [List.take_succ_cons, List.take_zero]
  repeat (first | go_big_quiet_step (fail) | quiet_step (fail))
  refine wpQuiet_nil ?_
  intro n3 K3 hK3
  clear dp1 dp2 do1 do2 n0
  have KT3 := KT.out n3
  have HF4 : Hid (Fr w n3.x (stB P A H)) := HF3.out.trans (n3.q.fr _)
  have HA4 : Hid (AccAt n3.x A (L ++ L')) := HA3.out.next n3.q
  have HZ4 : Hid (∀ j, n3.x.frozen? ⟨P, j, none⟩ = false) := fun j => by rw [n3.q.2]; exact HZ3.out j
  have p0 := n3.q.cell p0
  have p1 := n3.q.cell p1
  have p2 := n3.q.cell p2
  have p3 := n3.q.cell p3
  have p4 := n3.q.cell p4
  have p5 := n3.q.cell p5
  have o3 := n3.q.cell o3
  have o4 := n3.q.cell o4
  have o5 := n3.q.cell o5
  clear KT HF3 HA3 HZ3 o1 o2
  generalize n3.x = w4 at *
  go_wp2_with fail
  refine Calls.mono KT3 ?_
  rintro e w5 ⟨rfl, hT5, f5⟩
  have hPh := HC0.out.2.2.2.2.1
  have p0 := f5.cell p0 hPh
  have p1 := f5.cell p1 hPh
  have p2 := f5.cell p2 hPh
  have p3 := f5.cell p3 hPh
  have p4 := f5.cell p4 hPh
  have p5 := f5.cell p5 hPh
  have o3 := f5.cell o3 hPH
  have o4 := f5.cell o4 hPH
  have o5 := f5.cell o5 hPH
  have HA8 : Hid (AccAt w5 A (L ++ L')) := HA4.out.far f5 HC0.out.2.2.2.2.2
  have HZ8 : Hid (∀ j, w5.frozen? ⟨P, j, none⟩ = false) := fun j => (f5.frz _).trans (HZ4.out j)
  have HF8 : Hid (Fr w w5 (stB P A H)) := HF4.out.trans ⟨f5.os, f5.tape, f5.output, f5.size, fun x hx hr => f5.block x hx hr.2.2, f5.frz⟩
  have HT8 : Hid (VR w5 H (2 ^ b) (fun j => .int .i64 ((clsC b (L ++ L') j : Nat) : Int))) := hT5.congr fun j _ => by rw [clsC_append]
  clear HA4 HZ4 HF4 f5 hT5 hPh KT3
  have HWi : Hid (∀ n : QW w5, Calls Tryz.prog 46 #[.agg #[.int .u32 (lowK L : Nat), .int .u32 (topK L : Nat)], .agg #[.int .u32 (lowK L' : Nat), .int .u32 (topK L' : Nat)]] n.x fun e w' => e = .returned (.agg #[.int .u32 (lowK (L ++ L') : Nat), .int .u32 (topK (L ++ L') : Nat)]) ∧ Q n.x w') := fun n => by
    have := with_any (lowK L) (topK L) (lowK L') (topK L') n.x
    rw [← lowK_append, ← topK_append] at this
    exact this
  have dp3 := qw_cell p3
  have dp4 := qw_cell p4
  have do3 := qw_cell o3
  have do4 := qw_cell o4
  have n0 := qw_some w5
  go_wp2_with fail
  refine wp_lastR 12 rfl _ rfl (by kernel_rfl) (by kernel_rfl) (by kernel_rfl) ?_
  simp only [List.take_succ_cons, List.take_zero]
  repeat (first | go_big_quiet_step (first | (go_at_call 46; exact calls_qw (HWi.out _))) | quiet_step (first | (go_at_call 46; exact calls_qw (HWi.out _))))
  refine wpQuiet_nil ?_
  intro n5 K5 hK5
  clear dp3 dp4 do3 do4 n0 HWi
  have p0 := n5.q.cell p0
  have p1 := n5.q.cell p1
  have p2 := n5.q.cell p2
  have p3 := n5.q.cell p3
  have p4 := n5.q.cell p4
  have p5 := n5.q.cell p5
  have o5 := n5.q.cell o5
  have HA9 : Hid (AccAt n5.x A (L ++ L')) := HA8.out.next n5.q
  have HZ9 : ∀ j, n5.x.frozen? ⟨P, j, none⟩ = false := fun j => by rw [n5.q.2]; exact HZ8.out j
  have HF9 : Hid (Fr w n5.x (stB P A H)) := HF8.out.trans (n5.q.fr _)
  have HT9 : Hid (VR n5.x H (2 ^ b) (fun j => .int .i64 ((clsC b (L ++ L') j : Nat) : Int))) := HT8.out.next n5.q
  clear HA8 HZ8 HF8 HT8 o3 o4
  generalize n5.x = w9 at *
  go_wp2_with fail
  have hPA2 := HC0.out.2.2.2.1
  have hPH2 := HC0.out.2.2.2.2.1
  obtain ⟨y, hy⟩ : ∃ y, (w9.setCell ⟨P, 3, none⟩ (.int .u32 (lowK (L ++ L') : Nat))).setCell ⟨P, 4, none⟩ (.int .u32 (topK (L ++ L') : Nat)) = y := ⟨_, rfl⟩
  have cE : ∀ Bk j v, Bk ≠ P → w9.cell? ⟨Bk, j, none⟩ = some v → y.cell? ⟨Bk, j, none⟩ = some v := fun Bk j v hne hc => by
    rw [← hy, World.cell?_setCell_other _ _ _ _ (fun e => by injection e with e; omega), World.cell?_setCell_other _ _ _ _ (fun e => by injection e with e; omega)]; exact hc
  have cP : ∀ Bk j v, j ≠ 3 → j ≠ 4 → w9.cell? ⟨Bk, j, none⟩ = some v → y.cell? ⟨Bk, j, none⟩ = some v := fun Bk j v h3 h4 hc => by
    rw [← hy, World.cell?_setCell_other _ _ _ _ (fun e => by injection e with _ e; omega), World.cell?_setCell_other _ _ _ _ (fun e => by injection e with _ e; omega)]; exact hc
  have p0' := cP P 0 _ (by decide) (by decide) p0
  have p1' := cP P 1 _ (by decide) (by decide) p1
  have p2' := cP P 2 _ (by decide) (by decide) p2
  have p5' := cP P 5 _ (by decide) (by decide) p5
  have o5' := cP P' 5 _ (by decide) (by decide) o5
  have p4' : y.cell? ⟨P, 4, none⟩ = some (.int .u32 (topK (L ++ L') : Nat)) := by
    rw [← hy]; exact set_same (u := .int .u32 (topK L : Nat)) (by rw [set_off (by decide)]; exact p4)
  have p3' : y.cell? ⟨P, 3, none⟩ = some (.int .u32 (lowK (L ++ L') : Nat)) := by
    rw [← hy, set_off (by decide)]; exact set_same p3
  have fzy : ∀ a : Addr, y.frozen? a = w9.frozen? a := fun a => by rw [← hy, World.frozen?_setCell, World.frozen?_setCell]
  have HAy : Hid (AccAt y A (L ++ L')) := by
    obtain ⟨N', h'⟩ := HA9
    exact ⟨N', fun j hj => cE A j _ (fun e => hPA2 e.symm) (h'.n j hj), h'.r, cE A 5 _ (fun e => hPA2 e.symm) h'.m, cE A 6 _ (fun e => hPA2 e.symm) h'.c, fun j => (fzy _).trans (h'.z j)⟩
  have HTy : Hid (VR y H (2 ^ b) (fun j => .int .i64 ((clsC b (L ++ L') j : Nat) : Int))) := ⟨fun j hj => cE H j _ (fun e => hPH2 e.symm) (HT9.out.cell j hj), fun j => (fzy _).trans (HT9.out.free j)⟩
  have HZy : Hid (∀ j, y.frozen? ⟨P, j, none⟩ = false) := fun j => (fzy _).trans (HZ9 j)
  have HFy : Hid (Fr w y (stB P A H)) := by
    show Fr w y (stB P A H)
    rw [← hy]
    exact (HF9.out.set (fun e => e.1 rfl) _).set (fun e => e.1 rfl) _
  rw [hy]
  clear hy cE cP p0 p1 p2 p3 p4 p5 o5 fzy HA9 HT9 HZ9 HF9
  have hnc : nanC L ≤ L.length := List.countP_le_length
  have hnc' : nanC L' ≤ L'.length := List.countP_le_length
  have dp5 := qw_cell p5'
  have do5 := qw_cell o5'
  have n0 := qw_some y
  refine wp_lastR 11 rfl _ rfl (by kernel_rfl) (by kernel_rfl) (by kernel_rfl) ?_
  simp only [List.take_succ_cons, List.take_zero]
  repeat (first | go_big_quiet_step (fail) | quiet_step (fail))
  refine wpQuiet_nil ?_
  intro n4 K4 hK4
  clear dp5 do5 n0
  have p0 := n4.q.cell p0'
  have p1 := n4.q.cell p1'
  have p2 := n4.q.cell p2'
  have p3 := n4.q.cell p3'
  have p4 := n4.q.cell p4'
  have p5 := n4.q.cell p5'
  have HAz : Hid (AccAt n4.x A (L ++ L')) := HAy.out.next n4.q
  have HZz : ∀ j, n4.x.frozen? ⟨P, j, none⟩ = false := fun j => by rw [n4.q.2]; exact HZy.out j
  have HFz : Hid (Fr w n4.x (stB P A H)) := HFy.out.trans (n4.q.fr _)
  have HTz : Hid (VR n4.x H (2 ^ b) (fun j => .int .i64 ((clsC b (L ++ L') j : Nat) : Int))) := HTy.out.next n4.q
  clear HAy HZy HFy HTy p0' p1' p2' p3' p4' p5' o5'
  generalize n4.x = z at *
  go_wp2_with fail
  go_ret
  refine ⟨rfl, ?_, HFz.out.set (fun e => e.1 rfl) _⟩
  have cE : ∀ Bk j v u, Bk ≠ P → z.cell? ⟨Bk, j, none⟩ = some v → (z.setCell ⟨P, 5, none⟩ u).cell? ⟨Bk, j, none⟩ = some v := fun Bk j v u hne hc => by
    rw [World.cell?_setCell_other _ _ _ _ (fun e => by injection e with e; omega)]; exact hc
  refine ⟨HC0.out.1, HC0.out.2.1, ?_, ?_, ?_, ?_, ?_, ?_, ?_, ?_, ?_, HC0.out.2.2.1, hPA2, hPH2, HC0.out.2.2.2.2.2⟩
  · rw [set_off (by decide)]; exact p0
  · rw [set_off (by decide)]; exact p1
  · rw [set_off (by decide)]; exact p2
  · rw [set_off (by decide)]; exact p3
  · rw [set_off (by decide)]; exact p4
  · have e3 : ((nanC L : Int) + (nanC L' : Int)) = ((nanC (L ++ L') : Nat) : Int) := by rw [nanC_append]; omega
    rw [e3]; exact set_same p5
  · intro j; rw [World.frozen?_setCell]; exact HZz j
  · obtain ⟨N', h'⟩ := HAz
    exact ⟨N', fun j hj => cE A j _ _ (fun e => hPA2 e.symm) (h'.n j hj), h'.r, cE A 5 _ _ (fun e => hPA2 e.symm) h'.m, cE A 6 _ _ (fun e => hPA2 e.symm) h'.c, fun j => by rw [World.frozen?_setCell]; exact h'.z j⟩
  · exact ⟨fun j hj => cE H j _ _ (fun e => hPH2 e.symm) (HTz.out.cell j hj), fun j => by rw [World.frozen?_setCell]; exact HTz.out.free j⟩
end Go.Proofs.YtieojgblamkgoaaGreatDoor
/- stat: Histogram, NaNs; the statements' helper same. -/
namespace Go.Proofs.YtieojgblamkgoaaGreatDoor
open Go.RowKit
set_option linter.unusedVariables false
set_option linter.unusedSimpArgs false

def celI (S : List Int) : List Value := S.map fun x => .int .i64 x
theorem celI_length (S : List Int) : (celI S).length = S.length := by simp [celI]
theorem celI_get {S : List Int} {j : Nat} (h : j < S.length) : (celI S)[j]? = some (.int .i64 (S.getD j 0)) := by
  unfold celI
  rw [List.getElem?_map, List.getD_eq_getElem?_getD, List.getElem?_eq_getElem h]; rfl
set_option maxHeartbeats 2000000 in
set_option maxRecDepth 100000 in
theorem clonei_any (w : World) (g o cap : Nat) (S : List Int) (hI : ∀ i, i < S.length → w.cell? ⟨g, o + i, none⟩ = some (.int .i64 (S.getD i 0))) (hcap : S.length ≤ cap) (h1 : 1 ≤ S.length) (h2 : S.length ≤ 65536) :
    Calls Tryz.prog 73 #[.slice (some ⟨g, o, none⟩) S.length cap] w fun e w' => ∃ G k, e = .returned (.slice (some ⟨G, 0, none⟩) S.length k) ∧ S.length ≤ k ∧ (∀ i, i < S.length → w'.cell? ⟨G, i, none⟩ = some (.int .i64 (S.getD i 0))) ∧ w.heap.size ≤ G ∧ (∀ j, w'.frozen? ⟨G, j, none⟩ = false) ∧ Q w w' := by
  obtain ⟨i, i1, i2, i3, i4⟩ := intInfoV
  have H1 : Hid (∀ j u, (celI S)[j]? = some u → w.cell? ((⟨g, o, none⟩ : Addr).add j) = some u) := by
    intro j u hj
    have hjl : j < S.length := by have := (List.getElem?_eq_some_iff.1 hj).1; rw [celI_length] at this; exact this
    rw [celI_get hjl] at hj
    injection hj with hj
    rw [← hj, addrAdd]
    exact hI j hjl
  have H2 : Hid ((celI S).length = S.length * i.size) := by show _ = _; rw [i2, celI_length, Nat.mul_one]
  have H3 : Hid (S.length * i.bytes ≤ 140737488355328) := by show _ ≤ _; rw [i3]; omega
  have H4 : Hid (Tryz.prog.info? 3 = some i) := i1
  have H5 : Hid (i.zero = some (.int .i64 0)) := i4
  have H6 : Hid (i.size = 1) := i2
  have H7 : Hid ((Value.int .i64 0).cells.size = i.size) := by show _ = _; rw [i2]; rfl
  clear hI i1 i2 i3 i4
  have l1 := fun w => eql_nil Tryz.prog w 60 3 ⟨g, o, none⟩ S.length cap Tryz.underlying60
  go_enter Tryz.func73, Tryz.ntmps73
  go_wp2_with (at_builtin; go_must (refine wpList_room _ rfl (.tmp 5) (.tmp 6) 60 rfl 3 i _ Tryz.underlying60 H4.out H5.out H7.out _ (Or.inr ⟨_, rfl⟩) rfl _ S.length cap (celI S) rfl H2.out (fun j u h => Q.cell ((Q.refl w).cells _ _) (H1.out j u h)) (by omega) (by omega) H3.out ?_; intro cap' w' q1 q2 q3 q4 q5 q6 q7))
  have hz : (w.alloc (.cells #[] 3)).heap.size = w.heap.size + 1 := by simp
  rw [hz] at q4 q5 q6 q7
  go_ret
  refine ⟨w.heap.size + 1, cap', rfl, q2, fun j hj => q5 j _ (celI_get hj), by omega, q7, ((Q.refl w).cells _ _).trans q1⟩
/-- How many have each class, as a list. -/
def hisL (b : Nat) (L : List Nat) : List Int := (List.range (2 ^ b)).map fun j => (clsC b L j : Int)
theorem hisL_len (b : Nat) (L : List Nat) : (hisL b L).length = 2 ^ b := by unfold hisL; simp
theorem hisL_get {b : Nat} {L : List Nat} {j : Nat} (h : j < 2 ^ b) : (hisL b L).getD j 0 = (clsC b L j : Int) := by
  unfold hisL
  rw [List.getD_eq_getElem?_getD, List.getElem?_map, List.getElem?_range h]; rfl
set_option maxHeartbeats 2000000 in
set_option maxRecDepth 100000 in
theorem tclone_any (b H kc : Nat) (L : List Nat) (w : World) (h2 : b ≤ 12) (hT : VR w H (2 ^ b) (fun j => .int .i64 ((clsC b L j : Nat) : Int))) (hcap : 2 ^ b ≤ kc) :
    Calls Tryz.prog 48 #[talV b H kc] w fun e w' => ∃ G k, e = .returned (talV b G k) ∧ 2 ^ b ≤ k ∧ VR w' G (2 ^ b) (fun j => .int .i64 ((clsC b L j : Nat) : Int)) ∧ w.heap.size ≤ G ∧ Q w w' := by
  have hp : 2 ^ b ≤ 2 ^ 12 := Nat.pow_le_pow_right (by decide) h2
  have hp1 : 1 ≤ 2 ^ b := Nat.one_le_two_pow
  obtain ⟨w1, hw1⟩ : ∃ w1, (w.alloc (.cells #[.int .i64 (b : Int), .slice (some ⟨H, 0, none⟩) (2 ^ b) kc] 72)).alloc (.cells #[.int .i64 0, .slice none 0 0] 72) = w1 := ⟨_, rfl⟩
  obtain ⟨A, hA⟩ : ∃ A, w.heap.size = A := ⟨_, rfl⟩
  have q1 : Q w w1 := by rw [← hw1]; exact ((Q.refl w).cells _ _).cells _ _
  have s1 : w1.heap.size = A + 2 := by rw [← hw1, ← hA]; simp [go_sem]
  have z0 : w1.cell? ⟨A, 0, none⟩ = some (.int .i64 (b : Int)) := by rw [← hw1, ← hA]; simp [go_sem]
  have z1 : w1.cell? ⟨A, 1, none⟩ = some (.slice (some ⟨H, 0, none⟩) (2 ^ b) kc) := by rw [← hw1, ← hA]; simp [go_sem]
  have r0 : w1.cell? ⟨A + 1, 0, none⟩ = some (.int .i64 0) := by rw [← hw1, ← hA]; simp [go_sem]
  have r1 : w1.cell? ⟨A + 1, 1, none⟩ = some (.slice none 0 0) := by rw [← hw1, ← hA]; simp [go_sem]
  have rf : ∀ j, w1.frozen? ⟨A + 1, j, none⟩ = false := fun j => by rw [← hw1, ← hA]; simp [go_sem]
  have HC : Hid (∀ n : QW w1, Calls Tryz.prog 73 #[.slice (some ⟨H, 0, none⟩) (2 ^ b) kc] n.x fun e w' => ∃ v, e = .returned v ∧ ((∃ G k, v = .slice (some ⟨G, 0, none⟩) (2 ^ b) k ∧ 2 ^ b ≤ k ∧ VR w' G (2 ^ b) (fun j => .int .i64 ((clsC b L j : Nat) : Int)) ∧ n.x.heap.size ≤ G) ∧ Q n.x w')) := fun n => by
    have := clonei_any n.x H 0 kc (hisL b L) (fun i hi => by rw [hisL_len] at hi; rw [Nat.zero_add, hisL_get hi]; exact (hT.next (q1.trans n.q)).cell i hi) (by rw [hisL_len]; exact hcap) (by rw [hisL_len]; exact hp1) (by rw [hisL_len]; omega)
    rw [hisL_len] at this
    refine this.mono ?_
    rintro e w' ⟨G, k, rfl, hk, hc, hG, hf, hq⟩
    exact ⟨_, rfl, ⟨G, k, rfl, hk, ⟨fun i hi => by rw [hc i hi, hisL_get hi], hf⟩, hG⟩, hq⟩
  have HQ1 : Hid (Q w w1) := q1
  clear hT q1
  unfold talV
  generalize 2 ^ b = N at *
  go_enter Tryz.func48, Tryz.ntmps48
  go_wp2_with fail
  clear hw1
  have d0 := qw_cell z0
  have d1 := qw_cell z1
  have n0 := qw_some w1
  refine wp_region_mk [0, 1, 2, 3] [[4, 5, 6]] 3 _ (by kernel_rfl) (by kernel_rfl) rfl (by kernel_rfl) ?_
  simp only [List.filterMap_cons, List.filterMap_nil, List.getElem?_cons_zero, List.getElem?_cons_succ]
  repeat (first | go_big_quiet_step (fail) | quiet_step (fail))
  refine wpQuiet_nil ?_
  intro x hx
  clear d0 d1 n0
  have hxs := hx.1.size
  have l1 := enters_of Tryz.func73 (by kernel_rfl) rfl
  refine tree_call 4 rfl rfl (run_fn 73 #[.tmp 6] _ rfl l1 (vs := #[.slice (some ⟨H, 0, none⟩) N kc]) (by kernel_rfl)) (G := fun v x' => (∃ G k, v = .slice (some ⟨G, 0, none⟩) N k ∧ N ≤ k ∧ VR x' G N (fun j => .int .i64 ((clsC b L j : Nat) : Int)) ∧ x.heap.size ≤ G) ∧ Q x x') (HC.out ⟨x, hx⟩) ?_
  rintro u x2 ⟨⟨G, k, rfl, hk, hv, hG⟩, hq⟩
  have hx2 : Q w1 x2 := hx.trans hq
  refine ⟨hx2, ?_⟩
  refine tree_run 5 rfl rfl (v := .agg #[.int .i64 (b : Int), .slice (some ⟨G, 0, none⟩) N k]) (x' := x2) (by simp [execOp, go_sem, Act.eval, Act.put]) hx2 ?_
  have r0 := hx2.cell r0
  have r1 := hx2.cell r1
  have rf : ∀ j, x2.frozen? ⟨A + 1, j, none⟩ = false := fun j => by rw [hx2.2]; exact rf j
  refine tree_skipF 6 rfl rfl rfl (x' := (x2.setCell ⟨A + 1, 0, none⟩ (.int .i64 (b : Int))).setCell ⟨A + 1, 1, none⟩ (.slice (some ⟨G, 0, none⟩) N k)) (by simp [execOp, go_sem, Act.eval, Act.put, r0, r1, rf]) ?_
  refine tree_nil ?_
  simp only [Act.put, List.setIfInBounds_toArray, List.set_cons_succ, List.set_cons_zero]
  have hAG : A + 1 ≠ G := by omega
  have hv' := (hv.other (p := ⟨A + 1, 0, none⟩) hAG (.int .i64 (b : Int))).other (p := ⟨A + 1, 1, none⟩) hAG (.slice (some ⟨G, 0, none⟩) N k)
  have hqe : Q w ((x2.setCell ⟨A + 1, 0, none⟩ (.int .i64 (b : Int))).setCell ⟨A + 1, 1, none⟩ (.slice (some ⟨G, 0, none⟩) N k)) := ((HQ1.out.trans hx2).set (by show w.heap.size ≤ A + 1; omega) _).set (by show w.heap.size ≤ A + 1; omega) _
  go_wp2_with fail
  refine bodyPost_ret (v := .agg #[.int .i64 (b : Int), .slice (some ⟨G, 0, none⟩) N k]) (by simp [results, Tryz.results48, go_sem, r0, r1]) rfl ⟨G, k, rfl, hk, hv', by omega, hqe⟩
end Go.Proofs.YtieojgblamkgoaaGreatDoor
/- The chapter's examples: what the program tells of them. -/
namespace Go.Proofs.YtieojgblamkgoaaGreatDoor
open Go.RowKit
set_option linter.unusedVariables false
set_option linter.unusedSimpArgs false
set_option maxRecDepth 100000

def kl1 : List Nat := [1065353216, 864026624, 864026624]
def kl2 : List Nat := [2130706432, 2130706432, 4278190080]
theorem k1 : leftV kl1 = 1065353216 := by decide +kernel
theorem k2 : pairsV kl1 = 1065353217 := by decide +kernel
theorem k3 : sumV kl1 1 = 1065353217 := by decide +kernel
theorem k4 : kahV kl1 = 1065353217 := by decide +kernel
theorem k5 : left64V kl1 = 4607182419336888320 := by decide +kernel
theorem k6 : leftV kl2 = 2139095040 := by decide +kernel
theorem k9 : dotF [4607182418800017408, 13722468064597901312] = 4607182418263146496 := by decide +kernel
theorem small_of {l : List Nat} (h : l.all (· < 4294967296) = true) : (∀ s ∈ l, s < 4294967296) ∧ ∀ i, l.getD i 0 < 4294967296 := by
  have h1 : ∀ s ∈ l, s < 4294967296 := fun s hs => by simpa using List.all_eq_true.1 h s hs
  refine ⟨h1, fun i => ?_⟩
  rcases Nat.lt_or_ge i l.length with g | g
  · rw [List.getD_eq_getElem?_getD, List.getElem?_eq_getElem g]
    exact h1 _ (List.getElem_mem g)
  · rw [List.getD_eq_getElem?_getD, List.getElem?_eq_none g]
    decide
end Go.Proofs.YtieojgblamkgoaaGreatDoor
/- Lists that are lent, with room behind them that is marked. -/
namespace Go.Proofs.YtieojgblamkgoaaGreatDoor
open Go.RowKit
set_option linter.unusedVariables false
set_option linter.unusedSimpArgs false

end Go.Proofs.YtieojgblamkgoaaGreatDoor
/- The statement SumsExact: its walk. -/
namespace Go.Proofs.YtieojgblamkgoaaGreatDoor
open Go.RowKit
set_option linter.unusedVariables false
set_option linter.unusedSimpArgs false

theorem mem_lt {S : List Nat} (h : ∀ i, S.getD i 0 < 4294967296) : ∀ s ∈ S, s < 4294967296 := fun s hs => by
  obtain ⟨i, hi, rfl⟩ := List.getElem_of_mem hs
  have := h i
  rw [List.getD_eq_getElem?_getD, List.getElem?_eq_getElem hi] at this
  exact this
set_option maxHeartbeats 400000 in
theorem rexact_any (v : Value) (S : List Nat) (w : World) (hv : USl w v S) (hn : S.length ≤ 1000000) (hb : ∀ i, S.getD i 0 < 4294967296) :
    Calls Tryz.prog 74 #[v] w fun e w' => e = .returned (.int .u32 (sumV S 1 : Nat)) ∧ Q w w' := by
  have HZ : Hid (2 * (sumZ S).natAbs < m64 ^ 5) := sumZ_fits (mem_lt hb) (by omega)
  go_enter Tryz.func74, Tryz.ntmps74
  go_wp2_with fail
  refine (sof_any v S _ hv hn hb).mono ?_
  rintro e w1 ⟨rfl, hS, q1⟩
  go_wp2_with fail
  refine (told_any S w.heap.size _ hS HZ.out hn).mono ?_
  rintro e w2 ⟨rfl, q2⟩
  go_wp2_with fail
  go_ret
  exact ⟨rfl, q1.trans q2⟩
end Go.Proofs.YtieojgblamkgoaaGreatDoor
