/- What the statements' helper Crop answers. -/
import Derived.Test.YtieojgblamkgoaaGreatDoorGec94d093
import Derived.Test.YtieojgblamkgoaaGreatDoorG14462af6
import Derived.Test.YtieojgblamkgoaaGreatDoorG6008b90b
import Derived.Test.YtieojgblamkgoaaGreatDoorG9aa7668d
import Derived.Test.YtieojgblamkgoaaGreatDoorG00d82094
import Derived.Test.YtieojgblamkgoaaGreatDoorG28b2403f
namespace Go.Proofs.YtieojgblamkgoaaGreatDoor
open Go.RowKit
set_option linter.unusedVariables false
set_option linter.unusedSimpArgs false

theorem row_get {S : List Nat} {r c j : Nat} (h : j < c) : ((List.range c).map (fun t => S.getD (r + t) 0)).getD j 0 = S.getD (r + j) 0 := by
  rw [List.getD_eq_getElem?_getD, List.getElem?_map, List.getElem?_eq_getElem (by rw [List.length_range]; exact h)]
  simp
theorem run_slice_mid {ρ : Operand → Value} {x : World} {d : Option Tmp} {ty : TypeId} {ps : String} {af : Array Edge} {g : Option (Nat × Bool)} {j k l gb ob nn cc kk ll : Nat} (h : ρ (.tmp j) = .slice (some ⟨gb, ob, none⟩) nn cc) (h' : ρ (.tmp k) = .int .i64 (kk : Nat)) (h'' : ρ (.tmp l) = .int .i64 (ll : Nat)) (l0 : kk < ll) (l1 : ll ≤ cc) : (execOp ρ { dst := d, op := .slice 24 (.tmp j) (some (.tmp k)) (some (.tmp l)) none, type := ty, pos := ps, after := af, guard := g }).run Tryz.prog x = .ok (.value (.slice (some ⟨gb, ob + kk, none⟩) (ll - kk) (cc - kk))) x := by
  simp [execOp, h, h', h'', go_sem, Nat.le_of_lt l0, l1]
  intro h4
  omega
set_option maxHeartbeats 4000000 in
set_option maxRecDepth 100000 in
theorem hcrop_good {x0 y0 c d : Nat} (XX YY : Int) (hXX : XX = (x0 + c : Nat)) (hYY : YY = (y0 + d : Nat)) (w : World) (a b : Nat) (x : PL) (hr : Rct a b x0 y0 c d) (hs : Size a b) (hg : Gd w (a * b) x) :
    Calls Tryz.prog 43 #[plV a b x, .agg #[.int .i64 (x0 : Int), .int .i64 (y0 : Int), .int .i64 XX, .int .i64 YY]] w fun e w' => ∃ u, e = .returned u ∧ ∃ y : PL, u = plV c d y ∧ y.S = cutL a x0 y0 c d x.S ∧ Hid (Mine w.heap.size w' (c * d) y) ∧ Q w w' := by
  have HG : Hid (Gd w (a * b) x) := hg
  have HSZ : Hid (Size c d) := hr.size hs
  have HS : Hid (Size a b) := hs
  have HR : Hid (Rct a b x0 y0 c d) := hr
  have hxm : x0 + c ≤ 1024 := Nat.le_trans hr.c2 hs.a2
  have hym : y0 + d ≤ 1024 := Nat.le_trans hr.d2 hs.b2
  have hc1 := hr.c1
  have hd1 := hr.d1
  have hdx : XX - (x0 : Int) = (c : Int) := by omega
  have hdy : YY - (y0 : Int) = (d : Int) := by omega
  have hYd : YY = (y0 : Int) + (d : Int) := by omega
  have hXc : XX = (x0 : Int) + (c : Int) := by omega
  obtain ⟨N, hN⟩ : ∃ N, a * b = N := ⟨_, rfl⟩
  have hl : x.S.length = N := by rw [hg.len]; exact hN
  have HN : Hid (a * b = N ∧ x.S.length = N) := ⟨hN, hl⟩
  have hcap : N ≤ x.cap := by rw [← hl]; exact hg.room
  have hNm : N ≤ 65536 := by rw [← hN]; exact hs.ab
  obtain ⟨X0, hX0⟩ : ∃ X : Int, (x0 : Int) = X := ⟨_, rfl⟩
  obtain ⟨Y0, hY0⟩ : ∃ X : Int, (y0 : Int) = X := ⟨_, rfl⟩
  have HXY : Hid ((x0 : Int) = X0 ∧ (y0 : Int) = Y0 ∧ YY = (y0 : Int) + (d : Int) ∧ XX = (x0 : Int) + (c : Int)) := ⟨hX0, hY0, hYd, hXc⟩
  unfold plV PL.v
  rw [hl, hX0, hY0]
  rw [hX0] at hdx
  rw [hY0] at hdy
  have hX1 : 0 ≤ X0 := by omega
  have hX2 : X0 ≤ 1024 := by omega
  have hX3 : 0 ≤ XX := by omega
  have hX4 : XX ≤ 1024 := by omega
  have hY1 : 0 ≤ Y0 := by omega
  have hY2 : Y0 ≤ 1024 := by omega
  have hY3 : 0 ≤ YY := by omega
  have hY4 : YY ≤ 1024 := by omega
  clear hg hr hs hXX hYY hN hl hX0 hY0 hYd hXc
  have qa : Hid (∀ a b c d e f, Q w (((w.alloc (.cells a b)).alloc (.cells c d)).alloc (.cells e f))) := fun a b c d e f => (((Q.refl w).cells _ _).cells _ _).cells _ _
  go_enter Tryz.func43, Tryz.ntmps43
  go_wp2_with fail
  have HQ1 : Hid (Q w ((((w.alloc (Obj.cells #[Value.int IntKind.i64 ↑a, Value.int IntKind.i64 ↑b, Value.slice (some { block := x.g, off := x.o }) N x.cap] 26)).alloc (Obj.cells #[Value.int IntKind.i64 X0, Value.int IntKind.i64 Y0, Value.int IntKind.i64 XX, Value.int IntKind.i64 YY] 28)).alloc (Obj.cells #[Value.int IntKind.i64 0, Value.int IntKind.i64 0, Value.slice none 0 0] 26)).alloc (Obj.cells #[Value.int IntKind.i64 ↑c, Value.int IntKind.i64 ↑d, Value.slice none 0 0] 26))) := (qa.out _ _ _ _ _ _).cells _ _
  have hz1 : ((((w.alloc (Obj.cells #[Value.int IntKind.i64 ↑a, Value.int IntKind.i64 ↑b, Value.slice (some { block := x.g, off := x.o }) N x.cap] 26)).alloc (Obj.cells #[Value.int IntKind.i64 X0, Value.int IntKind.i64 Y0, Value.int IntKind.i64 XX, Value.int IntKind.i64 YY] 28)).alloc (Obj.cells #[Value.int IntKind.i64 0, Value.int IntKind.i64 0, Value.slice none 0 0] 26)).alloc (Obj.cells #[Value.int IntKind.i64 ↑c, Value.int IntKind.i64 ↑d, Value.slice none 0 0] 26)).heap.size = w.heap.size + 4 := by simp
  have p0 : ((((w.alloc (Obj.cells #[Value.int IntKind.i64 ↑a, Value.int IntKind.i64 ↑b, Value.slice (some { block := x.g, off := x.o }) N x.cap] 26)).alloc (Obj.cells #[Value.int IntKind.i64 X0, Value.int IntKind.i64 Y0, Value.int IntKind.i64 XX, Value.int IntKind.i64 YY] 28)).alloc (Obj.cells #[Value.int IntKind.i64 0, Value.int IntKind.i64 0, Value.slice none 0 0] 26)).alloc (Obj.cells #[Value.int IntKind.i64 ↑c, Value.int IntKind.i64 ↑d, Value.slice none 0 0] 26)).cell? ⟨w.heap.size, 0, none⟩ = some (.int .i64 (a : Int)) := by simp [go_sem]
  have p2 : ((((w.alloc (Obj.cells #[Value.int IntKind.i64 ↑a, Value.int IntKind.i64 ↑b, Value.slice (some { block := x.g, off := x.o }) N x.cap] 26)).alloc (Obj.cells #[Value.int IntKind.i64 X0, Value.int IntKind.i64 Y0, Value.int IntKind.i64 XX, Value.int IntKind.i64 YY] 28)).alloc (Obj.cells #[Value.int IntKind.i64 0, Value.int IntKind.i64 0, Value.slice none 0 0] 26)).alloc (Obj.cells #[Value.int IntKind.i64 ↑c, Value.int IntKind.i64 ↑d, Value.slice none 0 0] 26)).cell? ⟨w.heap.size, 2, none⟩ = some (.slice (some ⟨x.g, x.o, none⟩) N x.cap) := by simp [go_sem]
  have r0 : ((((w.alloc (Obj.cells #[Value.int IntKind.i64 ↑a, Value.int IntKind.i64 ↑b, Value.slice (some { block := x.g, off := x.o }) N x.cap] 26)).alloc (Obj.cells #[Value.int IntKind.i64 X0, Value.int IntKind.i64 Y0, Value.int IntKind.i64 XX, Value.int IntKind.i64 YY] 28)).alloc (Obj.cells #[Value.int IntKind.i64 0, Value.int IntKind.i64 0, Value.slice none 0 0] 26)).alloc (Obj.cells #[Value.int IntKind.i64 ↑c, Value.int IntKind.i64 ↑d, Value.slice none 0 0] 26)).cell? ⟨w.heap.size + 1, 0, none⟩ = some (.int .i64 X0) := by simp [go_sem]
  have r2 : ((((w.alloc (Obj.cells #[Value.int IntKind.i64 ↑a, Value.int IntKind.i64 ↑b, Value.slice (some { block := x.g, off := x.o }) N x.cap] 26)).alloc (Obj.cells #[Value.int IntKind.i64 X0, Value.int IntKind.i64 Y0, Value.int IntKind.i64 XX, Value.int IntKind.i64 YY] 28)).alloc (Obj.cells #[Value.int IntKind.i64 0, Value.int IntKind.i64 0, Value.slice none 0 0] 26)).alloc (Obj.cells #[Value.int IntKind.i64 ↑c, Value.int IntKind.i64 ↑d, Value.slice none 0 0] 26)).cell? ⟨w.heap.size + 1, 2, none⟩ = some (.int .i64 XX) := by simp [go_sem]
  have r3 : ((((w.alloc (Obj.cells #[Value.int IntKind.i64 ↑a, Value.int IntKind.i64 ↑b, Value.slice (some { block := x.g, off := x.o }) N x.cap] 26)).alloc (Obj.cells #[Value.int IntKind.i64 X0, Value.int IntKind.i64 Y0, Value.int IntKind.i64 XX, Value.int IntKind.i64 YY] 28)).alloc (Obj.cells #[Value.int IntKind.i64 0, Value.int IntKind.i64 0, Value.slice none 0 0] 26)).alloc (Obj.cells #[Value.int IntKind.i64 ↑c, Value.int IntKind.i64 ↑d, Value.slice none 0 0] 26)).cell? ⟨w.heap.size + 1, 3, none⟩ = some (.int .i64 YY) := by simp [go_sem]
  have z0 : ((((w.alloc (Obj.cells #[Value.int IntKind.i64 ↑a, Value.int IntKind.i64 ↑b, Value.slice (some { block := x.g, off := x.o }) N x.cap] 26)).alloc (Obj.cells #[Value.int IntKind.i64 X0, Value.int IntKind.i64 Y0, Value.int IntKind.i64 XX, Value.int IntKind.i64 YY] 28)).alloc (Obj.cells #[Value.int IntKind.i64 0, Value.int IntKind.i64 0, Value.slice none 0 0] 26)).alloc (Obj.cells #[Value.int IntKind.i64 ↑c, Value.int IntKind.i64 ↑d, Value.slice none 0 0] 26)).cell? ⟨w.heap.size + 1 + 1, 0, none⟩ = some (.int .i64 0) := by simp [go_sem]
  have z1 : ((((w.alloc (Obj.cells #[Value.int IntKind.i64 ↑a, Value.int IntKind.i64 ↑b, Value.slice (some { block := x.g, off := x.o }) N x.cap] 26)).alloc (Obj.cells #[Value.int IntKind.i64 X0, Value.int IntKind.i64 Y0, Value.int IntKind.i64 XX, Value.int IntKind.i64 YY] 28)).alloc (Obj.cells #[Value.int IntKind.i64 0, Value.int IntKind.i64 0, Value.slice none 0 0] 26)).alloc (Obj.cells #[Value.int IntKind.i64 ↑c, Value.int IntKind.i64 ↑d, Value.slice none 0 0] 26)).cell? ⟨w.heap.size + 1 + 1, 1, none⟩ = some (.int .i64 0) := by simp [go_sem]
  have z2 : ((((w.alloc (Obj.cells #[Value.int IntKind.i64 ↑a, Value.int IntKind.i64 ↑b, Value.slice (some { block := x.g, off := x.o }) N x.cap] 26)).alloc (Obj.cells #[Value.int IntKind.i64 X0, Value.int IntKind.i64 Y0, Value.int IntKind.i64 XX, Value.int IntKind.i64 YY] 28)).alloc (Obj.cells #[Value.int IntKind.i64 0, Value.int IntKind.i64 0, Value.slice none 0 0] 26)).alloc (Obj.cells #[Value.int IntKind.i64 ↑c, Value.int IntKind.i64 ↑d, Value.slice none 0 0] 26)).cell? ⟨w.heap.size + 1 + 1, 2, none⟩ = some (.slice none 0 0) := by simp [go_sem]
  have zf : ∀ j, ((((w.alloc (Obj.cells #[Value.int IntKind.i64 ↑a, Value.int IntKind.i64 ↑b, Value.slice (some { block := x.g, off := x.o }) N x.cap] 26)).alloc (Obj.cells #[Value.int IntKind.i64 X0, Value.int IntKind.i64 Y0, Value.int IntKind.i64 XX, Value.int IntKind.i64 YY] 28)).alloc (Obj.cells #[Value.int IntKind.i64 0, Value.int IntKind.i64 0, Value.slice none 0 0] 26)).alloc (Obj.cells #[Value.int IntKind.i64 ↑c, Value.int IntKind.i64 ↑d, Value.slice none 0 0] 26)).frozen? ⟨w.heap.size + 1 + 1, j, none⟩ = false := fun j => by simp [go_sem]
  have HB : Hid (Sbl (w.heap.size + 4) ((((w.alloc (Obj.cells #[Value.int IntKind.i64 ↑a, Value.int IntKind.i64 ↑b, Value.slice (some { block := x.g, off := x.o }) N x.cap] 26)).alloc (Obj.cells #[Value.int IntKind.i64 X0, Value.int IntKind.i64 Y0, Value.int IntKind.i64 XX, Value.int IntKind.i64 YY] 28)).alloc (Obj.cells #[Value.int IntKind.i64 0, Value.int IntKind.i64 0, Value.slice none 0 0] 26)).alloc (Obj.cells #[Value.int IntKind.i64 ↑c, Value.int IntKind.i64 ↑d, Value.slice none 0 0] 26)) (w.heap.size + 1 + 1 + 1) c d (.slice none 0 0) []) := Sbl.start (by simp [go_sem]) (by simp [go_sem]) (by simp [go_sem]) (fun j => by simp [go_sem]) (by omega)
  generalize ((((w.alloc (Obj.cells #[Value.int IntKind.i64 ↑a, Value.int IntKind.i64 ↑b, Value.slice (some { block := x.g, off := x.o }) N x.cap] 26)).alloc (Obj.cells #[Value.int IntKind.i64 X0, Value.int IntKind.i64 Y0, Value.int IntKind.i64 XX, Value.int IntKind.i64 YY] 28)).alloc (Obj.cells #[Value.int IntKind.i64 0, Value.int IntKind.i64 0, Value.slice none 0 0] 26)).alloc (Obj.cells #[Value.int IntKind.i64 ↑c, Value.int IntKind.i64 ↑d, Value.slice none 0 0] 26)) = w1 at *
  clear qa
  go_loopg [6] d (fun m s6 wx => ∃ (i : Nat) (v : Value) (xs : List Nat), s6 = .int .i64 ((y0 + i : Nat) : Int) ∧ i + m = d ∧ Hid (xs = tab c i (fun p q => smp x.S a (x0 + p) (y0 + q))) ∧ Hid (Sbl (w.heap.size + 4) wx (w.heap.size + 1 + 1 + 1) c d v xs) ∧ Hid (Q w wx) ∧ Hid (Fr w1 wx (fun b => b ≠ w.heap.size + 1 + 1 + 1 ∧ b < w.heap.size + 4)))
  case atStart => exact ⟨0, _, [], by rw [← HXY.out.2.1, Nat.add_zero], by omega, by show [] = tab c 0 _; unfold tab; rw [Nat.mul_zero]; rfl, HB, HQ1, Fr.refl _ _⟩
  case round =>
    obtain ⟨i, v, xs, rfl, him, HX, HB, HQ, HF⟩ := hrel
    have hr3 := HF.out.cell r3 ⟨by show w.heap.size + 1 ≠ _; omega, by show w.heap.size + 1 < _; omega⟩
    have hxl : xs.length = c * i := by have := HX.out; rw [this]; exact tab_length _ _ _
    have HXL : Hid (xs.length = c * i) := hxl
    obtain ⟨Z, hZ⟩ : ∃ Z : Int, ((y0 + i : Nat) : Int) = Z := ⟨_, rfl⟩
    have HZ : Hid (((y0 + i : Nat) : Int) = Z) := hZ
    have hZ1 : 0 ≤ Z := by omega
    have hZ2 : Z ≤ 1024 := by omega
    rw [hZ]
    by_cases hi : i < d
    · have hlt : Z < YY := by have := HXY.out.2.2.1; omega
      obtain ⟨r, hr⟩ : ∃ r, (y0 + i) * a = r := ⟨_, rfl⟩
      have hza : Z * (a : Int) = (r : Int) := by rw [← hZ, ← Int.natCast_mul, hr]
      have hrm : r + x0 + c ≤ N := by
        have h1 := HR.out.c2
        have h2 := HR.out.d2
        have h3 : (y0 + i) * a + a ≤ b * a := by rw [← Nat.succ_mul]; exact Nat.mul_le_mul_right a (by omega)
        rw [Nat.mul_comm b a, HN.out.1] at h3
        omega
      obtain ⟨P, hP⟩ : ∃ P, r + x0 = P := ⟨_, rfl⟩
      obtain ⟨H, hH⟩ : ∃ H, P + c = H := ⟨_, rfl⟩
      have hP1 : (r : Int) + X0 = (P : Int) := by have := HXY.out.1; omega
      have hH1 : (r : Int) + XX = (H : Int) := by have := HXY.out.2.2.2; omega
      have HPH : Hid (r + x0 = P ∧ P + c = H ∧ (y0 + i) * a = r) := ⟨hP, hH, hr⟩
      have hPH : P ≤ H := by omega
      have hHc : H ≤ x.cap := by omega
      have hHN : H ≤ N := by omega
      have hHm : H ≤ 65536 := by omega
      have hr0 : (0 : Int) ≤ (r : Int) := by omega
      have hr1 : (r : Int) ≤ 65536 := by omega
      have hp0 := HF.out.cell p0 ⟨by show w.heap.size ≠ _; omega, by show w.heap.size < _; omega⟩
      have hp2 := HF.out.cell p2 ⟨by show w.heap.size ≠ _; omega, by show w.heap.size < _; omega⟩
      have hr0' := HF.out.cell r0 ⟨by show w.heap.size + 1 ≠ _; omega, by show w.heap.size + 1 < _; omega⟩
      have hr2 := HF.out.cell r2 ⟨by show w.heap.size + 1 ≠ _; omega, by show w.heap.size + 1 < _; omega⟩
      have t1 := HB.out.c2
      have f1 := qw_cell t1
      have f2 := qw_cell hp0
      have f3 := qw_cell hp2
      have f4 := qw_cell hr0'
      have f5 := qw_cell hr2
      have hw1 : IntKind.i64.wrap (r : Int) = (r : Int) := by rw [IntKind.wrap_i64]; omega
      have hw2 : IntKind.i64.wrap (P : Int) = (P : Int) := by rw [IntKind.wrap_i64]; omega
      have hw3 : IntKind.i64.wrap (H : Int) = (H : Int) := by rw [IntKind.wrap_i64]; omega
      have n0 := qw_some wr
      clear hP hH hr hrm hxl hZ
      go_wp2_with fail
      refine wp_region_mk [0, 1, 2, 3, 4, 5, 6, 7, 8, 9, 10, 11, 12, 13, 14, 15, 16, 17] [[18, 19, 20, 21]] 4 _ (by kernel_rfl) (by kernel_rfl) rfl (by kernel_rfl) ?_
      simp only [List.filterMap_cons, List.filterMap_nil, List.getElem?_cons_zero, List.getElem?_cons_succ]
      repeat (first | go_big_quiet_step (fail) | quiet_step (fail))
      refine wpQuiet_nil ?_
      intro x4 hx4
      clear f1 f2 f3 f4 f5 n0
      refine tree_run 18 rfl rfl (v := .slice (some ⟨x.g, x.o + P, none⟩) (H - P) (x.cap - P)) (x' := x4) (run_slice_mid (nn := N) (by simp [Act.eval]) (by simp [Act.eval]) (by simp [Act.eval]) (by have := HPH.out; omega) hHc) hx4 ?_
      have hrow : ((List.range c).map fun t => x.S.getD (P + t) 0).length = c := by rw [List.length_map, List.length_range]
      have hcm : c * i + c ≤ 65536 := by
        have h1 : c * (i + 1) ≤ c * d := Nat.mul_le_mul_left c (by omega)
        have h2 := HSZ.out.ab
        rw [Nat.mul_succ] at h1
        omega
      have hs1 := HF.out.size
      have hs4 := hx4.1.size
      obtain ⟨g7, cap7, w7, hr7, ct7, cf7, HB7, HQ7, HF7⟩ := (HB.out.next hx4).app (HQ.out.trans hx4) (by omega) (by omega) (ys := (List.range c).map fun t => x.S.getD (P + t) 0) (by rw [hrow]; omega) (by rw [hrow, HXL.out]; exact hcm) (m := H - P) (c := x.cap - P) (ad := ⟨x.g, x.o + P, none⟩) (by rw [hrow]; have := HPH.out; omega) (fun j u hu => by
        have hj : j < c := by have := (List.getElem?_eq_some_iff.1 hu).1; rw [wdL_len, hrow] at this; exact this
        rw [wdL_get (by rw [hrow]; exact hj), row_get hj] at hu
        have hin : P + j < x.S.length := by have h1 := HPH.out; have h2 := HN.out.2; omega
        have := (HG.out.us.next (HQ.out.trans hx4)) (P + j) hin
        rw [addrAdd, Nat.add_assoc, this]
        exact hu)
      refine tree_runF 19 rfl rfl rfl (x' := w7) (run_appop rfl (v := v) (v' := .slice (some ⟨x.g, x.o + P, none⟩) (H - P) (x.cap - P)) (by simp [Act.eval, Act.put]) (by simp [Act.eval, Act.put]) hr7) ?_
      refine tree_runF 20 rfl rfl rfl (v := .pointer (some ⟨w.heap.size + 1 + 1 + 1, 2, none⟩)) (x' := w7) (by simp [execOp, go_sem]) ?_
      refine tree_skipF 21 rfl rfl rfl (x' := w7.setCell ⟨w.heap.size + 1 + 1 + 1, 2, none⟩ (.slice (some ⟨g7, 0, none⟩) (xs.length + (H - P)) cap7)) (by simp [execOp, go_sem, ct7, cf7]) ?_
      refine tree_nil ?_
      have HXN : Hid (xs ++ ((List.range c).map fun t => x.S.getD (P + t) 0) = tab c (i + 1) (fun p q => smp x.S a (x0 + p) (y0 + q))) := by
        show _ = _
        rw [tab_succ, ← HX.out]
        congr 1
        apply List.map_congr_left
        intro j hj
        unfold smp
        have h1 := HPH.out
        rw [h1.2.2]
        congr 1
        omega
      have HF8 : Hid (Fr w1 (w7.setCell ⟨w.heap.size + 1 + 1 + 1, 2, none⟩ (.slice (some ⟨g7, 0, none⟩) (xs.length + (H - P)) cap7)) (fun b => b ≠ w.heap.size + 1 + 1 + 1 ∧ b < w.heap.size + 4)) := (HF.out.trans (hx4.fr _)).trans (HF7.out.mono (fun z hz' _ => ⟨hz'.1, fun e => by have := (own_lt HB.out.row e).1; omega⟩))
      generalize w7.setCell ⟨w.heap.size + 1 + 1 + 1, 2, none⟩ (.slice (some ⟨g7, 0, none⟩) (xs.length + (H - P)) cap7) = w8 at *
      obtain ⟨Z', hZ'⟩ : ∃ Z' : Int, Z + 1 = Z' := ⟨_, rfl⟩
      have HZ' : Hid (((y0 + (i + 1) : Nat) : Int) = Z') := by have := HZ.out; show _ = _; omega
      have hZ1' : 0 ≤ Z' := by omega
      have hZ2' : Z' ≤ 1025 := by omega
      clear hr7 ct7 cf7 hx4 t1 hrow hcm hs1 hs4 hp0 hp2 hr0' hr2 hr3
      go_wp2_with fail
      go_roundg (d - (i + 1))
      case measure => go_light; omega
      case rel => go_light; exact ⟨i + 1, _, _, by rw [HZ'.out], by omega, HXN, HB7, HQ7, HF8⟩
    · have hie : i = d := by omega
      have hnl : ¬ (Z < YY) := by have := HXY.out.2.2.1; have := HZ.out; omega
      have t0 := HB.out.c0
      have t1 := HB.out.c1
      have t2 := HB.out.c2
      have z0r := HF.out.cell z0 ⟨by show w.heap.size + 1 + 1 ≠ _; omega, by show w.heap.size + 1 + 1 < _; omega⟩
      have z1r := HF.out.cell z1 ⟨by show w.heap.size + 1 + 1 ≠ _; omega, by show w.heap.size + 1 + 1 < _; omega⟩
      have z2r := HF.out.cell z2 ⟨by show w.heap.size + 1 + 1 ≠ _; omega, by show w.heap.size + 1 + 1 < _; omega⟩
      have zfr : ∀ j, wr.frozen? ⟨w.heap.size + 1 + 1, j, none⟩ = false := fun j => (HF.out.frz _).trans (zf j)
      have hxc : xs = cutL a x0 y0 c d x.S := by have := HX.out; rw [hie] at this; exact this
      obtain ⟨y, hy1, hy2, hy3⟩ := HB.out.mine (n := c * d) (by rw [hxc]; exact cutL_len _ _ _ _ _ _) HSZ.out.pos (by rw [hxc]; exact cutL_lt HG.out.lt)
      have HY : Hid (y.S = cutL a x0 y0 c d x.S ∧ Mine (w.heap.size + 4) wr (c * d) y) := ⟨hy2.trans hxc, hy3⟩
      unfold PL.v at hy1
      clear hy2 hy3 hxc
      subst hy1
      go_wp2_with fail
      have F9 : Fr wr (((wr.setCell ⟨w.heap.size + 1 + 1, 0, none⟩ (.int .i64 (c : Int))).setCell ⟨w.heap.size + 1 + 1, 1, none⟩ (.int .i64 (d : Int))).setCell ⟨w.heap.size + 1 + 1, 2, none⟩ (.slice (some ⟨y.g, y.o, none⟩) y.S.length y.cap)) (fun b => b ≠ w.heap.size + 1 + 1) := (((Fr.refl wr _).set (fun h => h rfl) _).set (fun h => h rfl) _).set (fun h => h rfl) _
      refine bodyPost_ret (v := .agg #[.int .i64 (c : Int), .int .i64 (d : Int), .slice (some ⟨y.g, y.o, none⟩) y.S.length y.cap]) (by simp [results, Tryz.results43, go_sem, z0r, z1r, z2r]) rfl ⟨_, rfl, y, rfl, HY.out.1, (HY.out.2.keep F9 (by have := HY.out.2.low; show y.g ≠ _; omega)).mono (by omega), ((HQ.out.set (by show _ ≤ w.heap.size + 1 + 1; omega) _).set (by show _ ≤ w.heap.size + 1 + 1; omega) _).set (by show _ ≤ w.heap.size + 1 + 1; omega) _⟩
end Go.Proofs.YtieojgblamkgoaaGreatDoor
/- The statements' helper adds. -/
namespace Go.Proofs.YtieojgblamkgoaaGreatDoor
open Go.RowKit
set_option linter.unusedVariables false
set_option linter.unusedSimpArgs false

/-- A list of the call's own, that may be written; or none. -/
def SpN (z : Nat) (w : World) (ad : Option Addr) (n c : Nat) : Prop := n = 0 ∨ ∃ b, ad = some ⟨b, 0, none⟩ ∧ SpW w b n ∧ 1 ≤ n ∧ n ≤ c ∧ z ≤ b
theorem SpN.keep {z : Nat} {w w' : World} {ad : Option Addr} {n c : Nat} {R : Nat → Prop} (h : SpN z w ad n c) (f : Fr w w' R) (hR : ∀ x, z ≤ x → R x) : SpN z w' ad n c := by
  rcases h with h | ⟨b, h1, h2, h3, h4, h5⟩
  · exact Or.inl h
  · refine Or.inr ⟨b, h1, ⟨fun i hi => ?_, fun j => (f.frz _).trans (h2.free j)⟩, h3, h4, h5⟩
    obtain ⟨y, hy⟩ := h2.cell i hi
    exact ⟨y, f.cell hy (hR b h5)⟩
theorem hcopy_al3 (w : World) (pw ph : Int) (ad : Option Addr) (n c : Nat) (S : List Nat) (hS : S.length = n) (hU : USl w (.slice ad n c) S) (h2 : n ≤ 1000000) :
    Calls Tryz.prog 16 #[.agg #[.int .i64 pw, .int .i64 ph, .slice ad n c]] w fun e w' => ∃ ad' c', e = .returned (.agg #[.int .i64 pw, .int .i64 ph, .slice ad' n c']) ∧ USl w' (.slice ad' n c') S ∧ SpN w.heap.size w' ad' n c' ∧ Q w w' := by
  rcases Nat.lt_or_ge 0 n with h1 | h1
  · obtain ⟨g, o, cap, hv, hc, hI⟩ := hU.some (by omega)
    injection hv with hv1 _ _
    subst hv1
    refine (hcopy_some w pw ph g o n c S hS hI h1 h2).mono ?_
    rintro e w' ⟨v, rfl, b, cap', rfl, hc', hb, hO⟩
    refine ⟨_, _, rfl, ?_, Or.inr ⟨b, rfl, ⟨fun i hi => ⟨_, by have := hO.cells i (by omega); rw [Nat.zero_add] at this; exact this⟩, hO.free⟩, h1, hc', hO.new⟩, hO.q⟩
    have := hO.cells.usl (cap := cap') (by omega)
    rw [hS] at this
    exact this
  · obtain rfl : n = 0 := by omega
    obtain rfl : S = [] := List.length_eq_zero_iff.1 hS
    refine (hcopy_none w pw ph ad c).mono ?_
    rintro e w' ⟨v, rfl, rfl, q⟩
    exact ⟨_, _, rfl, Or.inr ⟨_, _, rfl, rfl⟩, Or.inl rfl, q⟩
set_option maxHeartbeats 1000000 in
set_option maxRecDepth 100000 in
theorem spoil_none (w : World) (a b : Int) (ad : Option Addr) (c : Nat) :
    Calls Tryz.prog 25 #[.agg #[.int .i64 a, .int .i64 b, .slice ad 0 c]] w fun e w' => e = .returned (.tuple #[]) ∧ Q w w' := by
  obtain ⟨w1, hw1⟩ : ∃ w1, w.alloc (.cells #[.int .i64 a, .int .i64 b, .slice ad 0 c] 26) = w1 := ⟨_, rfl⟩
  have HQ1 : Hid (Q w w1) := by rw [← hw1]; exact (Q.refl w).cells _ _
  have p2 : w1.cell? ⟨w.heap.size, 2, none⟩ = some (.slice ad 0 c) := by rw [← hw1]; simp [go_sem]
  obtain ⟨B, hB⟩ : ∃ B, w.heap.size = B := ⟨_, rfl⟩
  rw [hB] at p2
  go_enter Tryz.func25, Tryz.ntmps25
  go_wp2_with fail
  clear hw1 hB
  go_loopg [2] 0 (fun m s2 wr => s2 = .int .i64 (0 : Int) ∧ m = 0 ∧ Hid (wr = w1))
  case atStart => exact ⟨rfl, rfl, rfl⟩
  case round =>
    obtain ⟨rfl, rfl, HX⟩ := hrel
    have hw := HX.out
    subst hw
    clear HX
    go_wp2_with fail
    go_end0
    exact ⟨rfl, HQ1.out⟩
theorem spoil_new (z : Nat) (w : World) (a b : Int) (ad : Option Addr) (n c : Nat) (h : SpN z w ad n c) (hn : n ≤ 1000000) :
    Calls Tryz.prog 25 #[.agg #[.int .i64 a, .int .i64 b, .slice ad n c]] w fun e w' => e = .returned (.tuple #[]) ∧ Fr w w' (fun x => x < z) := by
  rcases h with rfl | ⟨g, rfl, h2, h3, h4, h5⟩
  · exact (spoil_none w a b ad c).mono fun e w' h => ⟨h.1, h.2.fr _⟩
  · refine (spoil_fb w a b g n c h2 h3 (by omega) h4).mono fun e w' h => ⟨h.1, ?_⟩
    obtain ⟨h, f⟩ := h
    exact ⟨f.os, f.tape, f.output, f.size, fun x hx hr => f.block x hx (by omega), f.frz⟩
theorem Fr.below {w w5 w6 : World} {R : Nat → Prop} {z : Nat} (f : Fr w w5 R) (g : Fr w5 w6 (fun x => x < z)) (hz : w.heap.size ≤ z) : Fr w w6 R :=
  ⟨g.os.trans f.os, g.tape.trans f.tape, g.output.trans f.output, Nat.le_trans f.size g.size, fun x hx hr => (g.block x (Nat.lt_of_lt_of_le hx f.size) (by omega)).trans (f.block x hx hr), fun x => (g.frz x).trans (f.frz x)⟩
theorem usl_below {w0 w w' : World} {z : Nat} {ad : Option Addr} {n c : Nat} {S : List Nat} (h0 : USl w0 (.slice ad n c) S) (hz : w0.heap.size ≤ z) (h : USl w (.slice ad n c) S) (f : Fr w w' (fun x => x < z)) : USl w' (.slice ad n c) S := by
  rcases h0 with ⟨g, o, c', ev, hc, hI⟩ | ⟨a, c', ev, h0⟩
  · rcases Nat.eq_zero_or_pos S.length with hs | hs
    · injection ev with e1 e2 e3
      exact Or.inr ⟨_, _, by rw [e2, hs], List.length_eq_zero_iff.1 hs⟩
    · refine usl_fr h f (fun g' o' c2 e => ?_)
      have := cell_in (hI 0 hs)
      rw [ev] at e
      injection e with e _ _
      injection e with e
      injection e with e
      subst e
      omega
  · injection ev with e1 e2 e3
    exact Or.inr ⟨_, _, by rw [e2], h0⟩
theorem usl_lt {w : World} {g o n c : Nat} {S : List Nat} (h : USl w (.slice (some ⟨g, o, none⟩) n c) S) (h1 : 1 ≤ S.length) : g < w.heap.size := by
  obtain ⟨g', o', c', ev, hc, hI⟩ := h.some h1
  injection ev with e _ _
  injection e with e
  injection e with e
  subst e
  exact cell_in (hI 0 h1)
/-- Add of whatever plane and rectangle. -/
def sgE (W H : Int) (n : Nat) (x0 y0 x1 y1 : Int) : Int := if chk W H n ≠ 0 then chk W H n else if wiB x0 y0 x1 y1 W H = true then 0 else 52
def sgM (W H : Int) (S : List Nat) (x0 y0 x1 y1 : Int) : List Nat := if sgE W H S.length x0 y0 x1 y1 = 0 then crL W.toNat x0.toNat y0.toNat (x1 - x0).toNat (y1 - y0).toNat S else []
theorem sgE_cases (W H : Int) (S : List Nat) (x0 y0 x1 y1 : Int) : (∃ E, E ≠ 0 ∧ chk W H S.length = E ∧ sgE W H S.length x0 y0 x1 y1 = E ∧ sgM W H S x0 y0 x1 y1 = []) ∨
    (∃ a b : Nat, W = a ∧ H = b ∧ Size a b ∧ S.length = a * b ∧ wiB x0 y0 x1 y1 a b = false ∧ sgE W H S.length x0 y0 x1 y1 = 52 ∧ sgM W H S x0 y0 x1 y1 = []) ∨
    (∃ a b X Y c d : Nat, W = a ∧ H = b ∧ Size a b ∧ S.length = a * b ∧ x0 = X ∧ y0 = Y ∧ x1 = (X + c : Nat) ∧ y1 = (Y + d : Nat) ∧ Rct a b X Y c d ∧ sgE W H S.length x0 y0 x1 y1 = 0 ∧ sgM W H S x0 y0 x1 y1 = crL a X Y c d S) := by
  by_cases hE : chk W H S.length = 0
  · obtain ⟨a, b, rfl, rfl, hs, hl⟩ := chk_zero hE
    by_cases hw : wiB x0 y0 x1 y1 a b = true
    · obtain ⟨X, Y, c, d, rfl, rfl, rfl, rfl, hr⟩ := wiB_true.1 hw
      have e0 : sgE (a : Int) (b : Int) S.length (X : Int) (Y : Int) ((X + c : Nat) : Int) ((Y + d : Nat) : Int) = 0 := by unfold sgE; rw [if_neg (fun k => k hE), if_pos hw]
      refine Or.inr (Or.inr ⟨a, b, X, Y, c, d, rfl, rfl, hs, hl, rfl, rfl, rfl, rfl, hr, e0, ?_⟩)
      unfold sgM
      rw [if_pos e0]
      congr 1 <;> omega
    · have e0 : sgE (a : Int) (b : Int) S.length x0 y0 x1 y1 = 52 := by unfold sgE; rw [if_neg (fun k => k hE), if_neg hw]
      refine Or.inr (Or.inl ⟨a, b, rfl, rfl, hs, hl, by simpa using hw, e0, ?_⟩)
      unfold sgM
      rw [if_neg (by rw [e0]; decide)]
  · have e0 : sgE W H S.length x0 y0 x1 y1 = chk W H S.length := by unfold sgE; rw [if_pos hE]
    refine Or.inl ⟨_, hE, rfl, e0, ?_⟩
    unfold sgM
    rw [if_neg (by rw [e0]; exact hE)]
theorem sgM_len {W H : Int} {S : List Nat} {x0 y0 x1 y1 : Int} : (sgM W H S x0 y0 x1 y1).length ≤ S.length := by
  rcases sgE_cases W H S x0 y0 x1 y1 with ⟨E, _, _, _, h⟩ | ⟨a, b, _, _, _, _, _, _, h⟩ | ⟨a, b, X, Y, c, d, _, _, _, hl, _, _, _, _, hr, _, h⟩
  · rw [h]; exact Nat.zero_le _
  · rw [h]; exact Nat.zero_le _
  · rw [h, hl]
    unfold crL
    rw [tab_length]
    have h2 := hr.c2
    have h4 := hr.d2
    exact Nat.mul_le_mul (by omega) (by omega)
theorem sgM_lt {W H : Int} {S : List Nat} {x0 y0 x1 y1 : Int} (hb : ∀ i, S.getD i 0 < 4294967296) : ∀ i, (sgM W H S x0 y0 x1 y1).getD i 0 < 4294967296 := by
  unfold sgM
  split
  · exact fun i => tab_lt (by decide) (fun x y => hb _) i
  · intro i; show 0 < _; decide
theorem sadd_any (P A H b kc : Nat) (L : List Nat) (w : World) (h : StAt w P A H b kc L) (W HH : Int) (ad : Option Addr) (n cap : Nat) (S : List Nat) (hS : S.length = n) (us : USl w (.slice ad n cap) S) (x0 y0 x1 y1 : Int)
    (hb : ∀ i, S.getD i 0 < 4294967296) (hn : n ≤ 1000000) (hL : L.length ≤ 1000000) :
    Calls Tryz.prog 35 #[.pointer (some ⟨P, 0, none⟩), .agg #[.int .i64 W, .int .i64 HH, .slice ad n cap], .agg #[.int .i64 x0, .int .i64 y0, .int .i64 x1, .int .i64 y1]] w fun e w' => e = .returned (.int .i64 (sgE W HH S.length x0 y0 x1 y1)) ∧ StAt w' P A H b kc (L ++ sgM W HH S x0 y0 x1 y1) ∧ Fr w w' (stB P A H) := by
  rcases sgE_cases W HH S x0 y0 x1 y1 with ⟨E, hE, hc, h1, h2⟩ | ⟨a, b', rfl, rfl, hs, hl, hw, h1, h2⟩ | ⟨a, b', X, Y, c, d, rfl, rfl, hs, hl, rfl, rfl, rfl, rfl, hr, h1, h2⟩
  · rw [h1, h2, List.append_nil]
    refine (sadd_err P W HH ad n cap x0 y0 x1 y1 E hE w fun x => crop_bad W HH ad n cap (by omega) (by rw [← hS]; exact hc) hE x0 y0 x1 y1 x).mono ?_
    rintro e w' ⟨rfl, q⟩
    exact ⟨rfl, h.next q, q.fr _⟩
  · rw [h1, h2, List.append_nil]
    obtain ⟨g, o, cap', hv, hcap, hI⟩ := us.some (by have := hs.pos; omega)
    injection hv with e1 e2 e3
    subst e1 e2
    refine (sadd_err P a b' _ _ cap x0 y0 x1 y1 52 (by decide) w fun x => crop_out hs hl g o cap x0 y0 x1 y1 hw x).mono ?_
    rintro e w' ⟨rfl, q⟩
    exact ⟨rfl, h.next q, q.fr _⟩
  · rw [h1, h2]
    obtain ⟨g, o, cap', hv, hcap, hI⟩ := us.some (by have := hs.pos; omega)
    injection hv with e1 e2 e3
    subst e1 e2 e3
    exact sadd_good P A H b kc L w h ⟨hs, hl, rfl, by omega, hI⟩ hr _ _ rfl rfl (fun i => tab_lt (by decide) (fun x y => hb _) i) hL
set_option maxHeartbeats 4000000 in
set_option maxRecDepth 100000 in
theorem sadds_any (P A H b kc : Nat) (L : List Nat) (x : OpD) (w : World) (h : StAt w P A H b kc L) (us : USl w (.slice x.ad x.S.length x.cap) x.S) (hb : ∀ i, x.S.getD i 0 < 4294967296) (hn : x.S.length ≤ 600) (hap : ∀ g o, 1 ≤ x.S.length → x.ad = some ⟨g, o, none⟩ → stB P A H g) (hL : L.length ≤ 100000) :
    Calls Tryz.prog 12 #[.pointer (some ⟨P, 0, none⟩), x.v] w fun e w' => ∃ M ad' c', e = .returned (.tuple #[.slice ad' M.length c', .bool true]) ∧ USl w' (.slice ad' M.length c') M ∧ M.length ≤ 600 ∧ (∀ i, M.getD i 0 < 4294967296) ∧ StAt w' P A H b kc (L ++ M) ∧ Fr w w' (stB P A H) := by
  obtain ⟨kd, wh, pw, ph, ad, cap, S, x0, y0, x1, y1⟩ := x
  simp only [OpD.v, OpD.pv, OpD.rv] at *
  obtain ⟨n, hN⟩ : ∃ n, S.length = n := ⟨_, rfl⟩
  have hMl : (sgM pw ph S x0 y0 x1 y1).length ≤ 600 := Nat.le_trans sgM_len hn
  have hMb := sgM_lt (W := pw) (H := ph) (x0 := x0) (y0 := y0) (x1 := x1) (y1 := y1) hb
  rw [hN] at us hn ⊢
  obtain ⟨w1, hw1⟩ : ∃ w1, w.alloc (.cells #[.int .i64 kd, .int .i64 wh, .int .i64 pw, .int .i64 ph, .slice ad n cap, .int .i64 x0, .int .i64 y0, .int .i64 x1, .int .i64 y1] 30) = w1 := ⟨_, rfl⟩
  have q1 : Q w w1 := by rw [← hw1]; exact (Q.refl w).cells _ _
  obtain ⟨B, hB⟩ : ∃ B, w.heap.size = B := ⟨_, rfl⟩
  have z1 : w1.heap.size = B + 1 := by rw [← hw1, ← hB]; simp [go_sem]
  have p2 : w1.cell? ⟨B, 2, none⟩ = some (.int .i64 pw) := by rw [← hw1, ← hB]; simp [go_sem]
  have p3 : w1.cell? ⟨B, 3, none⟩ = some (.int .i64 ph) := by rw [← hw1, ← hB]; simp [go_sem]
  have p4 : w1.cell? ⟨B, 4, none⟩ = some (.slice ad n cap) := by rw [← hw1, ← hB]; simp [go_sem]
  have p5 : w1.cell? ⟨B, 5, none⟩ = some (.int .i64 x0) := by rw [← hw1, ← hB]; simp [go_sem]
  have p6 : w1.cell? ⟨B, 6, none⟩ = some (.int .i64 y0) := by rw [← hw1, ← hB]; simp [go_sem]
  have p7 : w1.cell? ⟨B, 7, none⟩ = some (.int .i64 x1) := by rw [← hw1, ← hB]; simp [go_sem]
  have p8 : w1.cell? ⟨B, 8, none⟩ = some (.int .i64 y1) := by rw [← hw1, ← hB]; simp [go_sem]
  have lt := h.lt
  have HB : Hid (stB P A H B) := ⟨by omega, by omega, by omega⟩
  have HST1 : Hid (StAt w1 P A H b kc L) := h.next q1
  have HU1 : Hid (USl w1 (.slice ad n cap) S) := us.next q1
  have HQ1 : Hid (Q w w1) := q1
  have HSb : Hid (∀ i, S.getD i 0 < 4294967296) := hb
  have HN : Hid (S.length = n) := hN
  have HZB : Hid (B < w1.heap.size ∧ w.heap.size ≤ w1.heap.size) := by show _ ∧ _; omega
  have HAp : Hid (∀ g o, 1 ≤ S.length → ad = some ⟨g, o, none⟩ → stB P A H g) := fun g o h1 => hap g o (by omega)
  have HLt : Hid (P < w1.heap.size ∧ A < w1.heap.size ∧ H < w1.heap.size) := by show _ ∧ _ ∧ _; omega
  have HL : Hid (L.length ≤ 100000) := hL
  have HM : Hid ((sgM pw ph S x0 y0 x1 y1).length ≤ 600 ∧ ∀ i, (sgM pw ph S x0 y0 x1 y1).getD i 0 < 4294967296) := ⟨hMl, hMb⟩
  have HCy : Hid _ := hcopy_al3 w1 pw ph ad n cap S hN HU1.out (by omega)
  clear h us hb hap q1 lt hL hMl hMb z1
  go_enter Tryz.func12, Tryz.ntmps12
  go_wp2_with fail
  clear hw1
  refine Calls.mono HCy.out ?_
  rintro e w2 ⟨ad2, c2, rfl, u2, s2, q2⟩
  obtain ⟨w3, hw3⟩ : ∃ w3, w2.alloc (.cells #[.int .i64 pw, .int .i64 ph, .slice ad2 n c2] 26) = w3 := ⟨_, rfl⟩
  have q3 : Q w2 w3 := by rw [← hw3]; exact (Q.refl w2).cells _ _
  obtain ⟨B2, hB2⟩ : ∃ B2, w2.heap.size = B2 := ⟨_, rfl⟩
  have l0 : w3.cell? ⟨B2, 0, none⟩ = some (.int .i64 pw) := by rw [← hw3, ← hB2]; simp [go_sem]
  have l1 : w3.cell? ⟨B2, 1, none⟩ = some (.int .i64 ph) := by rw [← hw3, ← hB2]; simp [go_sem]
  have l2 : w3.cell? ⟨B2, 2, none⟩ = some (.slice ad2 n c2) := by rw [← hw3, ← hB2]; simp [go_sem]
  have HB2 : Hid (stB P A H B2) := by
    have := q2.1.size
    have := HLt.out
    exact ⟨by omega, by omega, by omega⟩
  have q13 := q2.trans q3
  have p2 := q13.cell p2
  have p3 := q13.cell p3
  have p4 := q13.cell p4
  have p5 := q13.cell p5
  have p6 := q13.cell p6
  have p7 := q13.cell p7
  have p8 := q13.cell p8
  have HU3 : Hid (USl w3 (.slice ad n cap) S) := HU1.out.next q13
  have HV3 : Hid (USl w3 (.slice ad2 n c2) S) := u2.next q3
  have HS3 : Hid (SpN w1.heap.size w3 ad2 n c2) := s2.keep (q3.fr fun _ => True) (fun _ _ => trivial)
  have HQ3 : Hid (Q w w3) := HQ1.out.trans q13
  have HT3 : Hid (StAt w3 P A H b kc L) := HST1.out.next q13
  have HZ3 : Hid (w1.heap.size ≤ w3.heap.size) := q13.1.size
  clear q2 q3 q13 u2 s2 HST1 HCy
  go_wp2_with fail
  clear hw3
  have KA := sadd_any P A H b kc L w3 HT3.out pw ph ad2 n c2 S HN.out HV3.out x0 y0 x1 y1 HSb.out (by omega) (by have := HL.out; omega)
  refine Calls.mono KA ?_
  rintro e w4 ⟨rfl, hT4, f4⟩
  have p2 := f4.cell p2 HB.out
  have p3 := f4.cell p3 HB.out
  have p4 := f4.cell p4 HB.out
  have p5 := f4.cell p5 HB.out
  have p6 := f4.cell p6 HB.out
  have p7 := f4.cell p7 HB.out
  have p8 := f4.cell p8 HB.out
  have l0 := f4.cell l0 HB2.out
  have l1 := f4.cell l1 HB2.out
  have l2 := f4.cell l2 HB2.out
  have HR : ∀ y, w1.heap.size ≤ y → stB P A H y := fun y hy => by have := HLt.out; exact ⟨by omega, by omega, by omega⟩
  have HS4 : Hid (SpN w1.heap.size w4 ad2 n c2) := SpN.keep HS3.out f4 HR
  have HU4 : Hid (USl w4 (.slice ad n cap) S) := by
    rcases Nat.eq_zero_or_pos n with h0 | h0
    · exact Or.inr ⟨_, _, by rw [h0], List.length_eq_zero_iff.1 (HN.out.trans h0)⟩
    · exact usl_fr HU3.out f4 (fun g o c e => by injection e with e _ _; exact HAp.out g o (by have := HN.out; omega) e)
  have HV4 : Hid (USl w4 (.slice ad2 n c2) S) := by
    rcases HS3.out with h0 | ⟨g', e', _, _, _, hg⟩
    · exact Or.inr ⟨_, _, by rw [h0], List.length_eq_zero_iff.1 (HN.out.trans h0)⟩
    · exact usl_fr HV3.out f4 (fun g o c e => by
        injection e with e _ _
        rw [e'] at e
        injection e with e
        injection e with e
        subst e
        exact HR _ hg)
  have HF4 : Hid (Fr w w4 (stB P A H)) := (HQ3.out.fr _).trans f4
  have HT4 : Hid (StAt w4 P A H b kc (L ++ sgM pw ph S x0 y0 x1 y1)) := hT4
  clear hT4 f4 HR HS3 HU3 HV3 HQ3 HT3 KA
  go_wp2_with fail
  refine Calls.mono (hplanes_yes pw ph ad2 ad n c2 cap S w4 HV4.out HU4.out (by have := HN.out; omega)) ?_
  rintro e w5 ⟨rfl, q5⟩
  have p2 := q5.cell p2
  have p3 := q5.cell p3
  have p4 := q5.cell p4
  have p5 := q5.cell p5
  have p6 := q5.cell p6
  have p7 := q5.cell p7
  have p8 := q5.cell p8
  have l0 := q5.cell l0
  have l1 := q5.cell l1
  have l2 := q5.cell l2
  have HS5 : Hid (SpN w1.heap.size w5 ad2 n c2) := HS4.out.keep (q5.fr fun _ => True) (fun _ _ => trivial)
  have HU5 : Hid (USl w5 (.slice ad n cap) S) := HU4.out.next q5
  have HF5 : Hid (Fr w w5 (stB P A H)) := HF4.out.trans (q5.fr _)
  have HT5 : Hid (StAt w5 P A H b kc (L ++ sgM pw ph S x0 y0 x1 y1)) := HT4.out.next q5
  clear q5 HS4 HU4 HV4 HF4 HT4
  go_wp2_with fail
  refine Calls.mono (spoil_new w1.heap.size w5 pw ph ad2 n c2 HS5.out (by omega)) ?_
  rintro e w6 ⟨rfl, f6⟩
  have hBz : B < w1.heap.size := HZB.out.1
  have p2 := f6.cell p2 hBz
  have p3 := f6.cell p3 hBz
  have p4 := f6.cell p4 hBz
  have p5 := f6.cell p5 hBz
  have p6 := f6.cell p6 hBz
  have p7 := f6.cell p7 hBz
  have p8 := f6.cell p8 hBz
  have HU6 : Hid (USl w6 (.slice ad n cap) S) := usl_below HU1.out (Nat.le_refl _) HU5.out f6
  have HT6 : Hid (StAt w6 P A H b kc (L ++ sgM pw ph S x0 y0 x1 y1)) := HT5.out.keep f6 HLt.out.1 HLt.out.2.1 HLt.out.2.2
  have HF6 : Hid (Fr w w6 (stB P A H)) := HF5.out.below f6 HZB.out.2
  clear f6 hBz HS5 HU5 HT5 HF5 l0 l1 l2 HAp HLt HB HB2
  go_wp2_with fail
  refine Calls.mono (may_any pw ph ad n cap w6) ?_
  rintro e w7 ⟨rfl, q7⟩
  have p2 := q7.cell p2
  have p3 := q7.cell p3
  have p4 := q7.cell p4
  have p5 := q7.cell p5
  have p6 := q7.cell p6
  have p7 := q7.cell p7
  have p8 := q7.cell p8
  have HU7 : Hid (USl w7 (.slice ad n cap) S) := HU6.out.next q7
  have HT7 : Hid (StAt w7 P A H b kc (L ++ sgM pw ph S x0 y0 x1 y1)) := HT6.out.next q7
  have HF7 : Hid (Fr w w7 (stB P A H)) := HF6.out.trans (q7.fr _)
  clear q7 HU6 HT6 HF6
  rcases sgE_cases pw ph S x0 y0 x1 y1 with ⟨E, hE, hc, h1, h2⟩ | ⟨a, b', rfl, rfl, hs, hl, hw, h1, h2⟩ | ⟨a, b', X, Y, c, d, rfl, rfl, hs, hl, rfl, rfl, rfl, rfl, hr, h1, h2⟩
  · rw [HN.out] at hc h1
    rw [h2] at HT7
    rw [h1, hc]
    have hne : (E != 0) = true := by simpa using hE
    have hne2 : (E == 0) = false := by simpa using hE
    clear HM
    go_wp2_with fail
    go_ret2
    exact ⟨[], none, 0, by simp, Or.inr ⟨_, _, rfl, rfl⟩, by decide, fun i => by show 0 < _; decide, HT7.out, HF7.out⟩
  · have hc : chk (a : Int) (b' : Int) n = 0 := by rw [← HN.out, hl]; exact chk_size hs
    rw [HN.out] at h1
    rw [h2] at HT7
    rw [h1, hc]
    have KW := hwithin_any x0 y0 x1 y1 (a : Int) (b' : Int) w7
    rw [hw] at KW
    clear HM
    go_wp2_with fail
    refine Calls.mono KW ?_
    rintro e w8 ⟨rfl, q8⟩
    have HT8 : Hid (StAt w8 P A H b kc (L ++ [])) := HT7.out.next q8
    have HF8 : Hid (Fr w w8 (stB P A H)) := HF7.out.trans (q8.fr _)
    clear q8 HT7 HF7 KW
    go_wp2_with fail
    go_ret2
    exact ⟨[], none, 0, by simp, Or.inr ⟨_, _, rfl, rfl⟩, by decide, fun i => by show 0 < _; decide, HT8.out, HF8.out⟩
  · have hc : chk (a : Int) (b' : Int) n = 0 := by rw [← HN.out, hl]; exact chk_size hs
    rw [HN.out] at h1
    rw [h2] at HT7 HM
    rw [h1, hc]
    have KW := hwithin_any (X : Int) (Y : Int) ((X + c : Nat) : Int) ((Y + d : Nat) : Int) (a : Int) (b' : Int) w7
    rw [wiB_true.2 ⟨X, Y, c, d, rfl, rfl, rfl, rfl, hr⟩] at KW
    obtain ⟨g, o, cap', hv, hcap, hI⟩ := HU7.out.some (by have := hs.pos; omega)
    injection hv with e1 e2 e3
    subst e1 e3
    have HCr : Hid _ := fun x (q : Q w7 x) => hcrop_good ((X + c : Nat) : Int) ((Y + d : Nat) : Int) rfl rfl x a b' ⟨g, o, cap, S⟩ hr hs ⟨hl, hcap, hI.next q, HSb.out⟩
    obtain ⟨XX, hXX⟩ : ∃ XX : Int, ((X + c : Nat) : Int) = XX := ⟨_, rfl⟩
    obtain ⟨YY, hYY⟩ : ∃ YY : Int, ((Y + d : Nat) : Int) = YY := ⟨_, rfl⟩
    rw [hXX] at p7 KW HCr
    rw [hYY] at p8 KW HCr
    unfold plV PL.v at HCr
    simp only [HN.out] at HCr
    have HHr : Hid (Size c d) := hr.size hs
    clear hcap hI hl hs hr hXX hYY hc h1 h2 HU7 e2
    go_wp2_with fail
    refine Calls.mono KW ?_
    rintro e w8 ⟨rfl, q8⟩
    have p2 := q8.cell p2
    have p3 := q8.cell p3
    have p4 := q8.cell p4
    have p5 := q8.cell p5
    have p6 := q8.cell p6
    have p7 := q8.cell p7
    have p8 := q8.cell p8
    have HT8 : Hid (StAt w8 P A H b kc (L ++ crL a X Y c d S)) := HT7.out.next q8
    have HF8 : Hid (Fr w w8 (stB P A H)) := HF7.out.trans (q8.fr _)
    have HQ8 : Hid (Q w7 w8) := q8
    clear q8 HT7 HF7 KW
    go_wp2_with fail
    refine Calls.mono (HCr.out _ HQ8.out) ?_
    rintro e w9 ⟨u, rfl, y, rfl, hy, hm, q9⟩
    have HT9 : Hid (StAt w9 P A H b kc (L ++ crL a X Y c d S)) := HT8.out.next q9
    have HF9 : Hid (Fr w w9 (stB P A H)) := HF8.out.trans (q9.fr _)
    have hyc : y.S = crL a X Y c d S := hy
    have HY : Hid (USl w9 y.v (crL a X Y c d S)) := by
      have := hm.out.gd.usl
      rw [hyc] at this
      exact this
    have hyl : y.S.length = (crL a X Y c d S).length := by rw [hyc]
    clear hm hy hyc q9 HT8 HF8 HQ8 HCr
    unfold PL.v at HY
    rw [hyl] at HY
    have hf : ∀ w, (Instr.field 26 (.agg #[.int .i64 (c : Int), .int .i64 (d : Int), .slice (some ⟨y.g, y.o, none⟩) (crL a X Y c d S).length y.cap]) 2).run Tryz.prog w = .ok (.slice (some ⟨y.g, y.o, none⟩) (crL a X Y c d S).length y.cap) w := fun w => by rfl
    rw [hyl]
    generalize crL a X Y c d S = M at *
    go_wp2_with fail
    go_ret2
    exact ⟨M, _, _, by simp, HY.out, HM.out.1, HM.out.2, HT9.out, HF9.out⟩
end Go.Proofs.YtieojgblamkgoaaGreatDoor
/- Two stats and two lists of the call's own: what stays apart. -/
namespace Go.Proofs.YtieojgblamkgoaaGreatDoor
open Go.RowKit
set_option linter.unusedVariables false
set_option linter.unusedSimpArgs false

theorem OwnR.form {w0 w : World} {v : Value} {L : List Nat} (h : OwnR w0 w v L) : ∃ a c, v = .slice a L.length c := by
  obtain ⟨⟨_, ⟨rfl, h0⟩ | ⟨g, cap, cur, rfl, _⟩⟩, _⟩ := h
  · exact ⟨none, 0, by rw [h0]⟩
  · exact ⟨_, _, rfl⟩
theorem OwnR.blk {w0 w : World} {v : Value} {L : List Nat} (h : OwnR w0 w v L) {g : Nat} (hg : v.ownBlock = some g) : w0.heap.size ≤ g ∧ g < w.heap.size := own_lt h.1 hg
theorem OwnR.keep {w0 w w' : World} {v : Value} {L : List Nat} {R : Nat → Prop} (h : OwnR w0 w v L) (f : Fr w w' R) (hr : ∀ x, v.ownBlock = some x → R x) (q : Q w0 w') : OwnR w0 w' v L := ⟨f.row h.1 hr, q⟩
theorem run_app_noneR {P : Program} (w : World) (base : Nat) (t ty e : TypeId) (i : TypeInfo) (ht : P.underlying t = some (.slice e)) (hi : P.info? e = some i) {v : Value} {n : Nat} {xs : List Value} (h : w.ownsRow base e 1 v n xs) (a : Option Addr) (c : Nat) : (Builtin.append_ #[t, t] ty #[v, .slice a 0 c]).run P w = .ok v w := by
  obtain ⟨_, ⟨rfl, h0⟩ | ⟨g, cap, cur, rfl, _, _, hc, _⟩⟩ := h
  · exact run_app_zeroR w t ty e i ht hi a c
  · cases a <;> simp [Builtin.append_, run_underlying ht, sizeOf, typeInfo, hi, Builtin.lenOf, Builtin.firstCells, loadCells, loadCellsFrom, storeCells, hc]
/-- Samples put behind a list of the call's own, none or some. -/
theorem wpList_addV (w w0 : World) {ops : Array Oper} {rest : List Oper} {o : Oper} {a : Act} {R : Exit → Act → World → Prop} (hgd : o.guard = none) (s x : Operand)
    (ho : o.op = .call { callee := .builtin .append, args := #[s, x], argTypes := #[24, 24] })
    (v : Value) (L : List Nat) (hs : a.eval s = v) (hown : OwnR w0 w v L)
    (ad : Option Addr) (m c : Nat) (S : List Nat) (hx : a.eval x = .slice ad m c) (hS : USl w (.slice ad m c) S) (hm : S.length = m) (h63 : L.length + m ≤ 100000)
    (h : ∀ v' w', OwnR w0 w' v' (L ++ S) → Fr w w' (fun g => v.ownBlock ≠ some g) → (∀ g, v'.ownBlock = some g → v.ownBlock = some g ∨ w.heap.size ≤ g) → wpList Tryz.prog ops R rest (a.put o.dst v') w') :
    wpList Tryz.prog ops R (o :: rest) a w := by
  obtain ⟨iu, i1, i2, i3, i4⟩ := u32Info
  refine wpList_plain hgd fun _ hK => ?_
  unfold Oper.wp execOp
  have hap : newsR (L ++ S) = newsR L ++ newsR S := by simp [newsR]
  by_cases h0 : m = 0
  · subst h0
    have hS0 : S = [] := List.eq_nil_of_length_eq_zero hm
    have hr := run_app_noneR (P := Tryz.prog) w _ 24 o.type 43 iu Tryz.underlying24 i1 hown.1 ad c
    simp only [ho, resolve, invoke, builtin, Sem.run_bind, Sem.run_pure, Result.andThen_ok, List.map_toArray, List.map_cons, List.map_nil, hs, hx, hr]
    refine hK _ _ (h v w ?_ (Fr.refl _ _) (fun g hg => Or.inl hg))
    rw [hS0, List.append_nil]
    exact hown
  · obtain ⟨g, o', c', e1, hcap, e3⟩ := hS.some (by omega)
    rw [e1] at hx
    have hl : (newsR S).length = S.length := by simp [newsR]
    obtain ⟨g2, cap, w', hr, ho2, hq, hgb, hgg⟩ := run_app_qg (P := Tryz.prog) w w0 hown.2 24 o.type 43 iu _ 1 4 Tryz.underlying24 i1 i4 i2 i3 rfl (by decide) v L.length (newsR L) hown.1 ⟨g, o', none⟩ S.length c' (newsR S) (by rw [hl, Nat.mul_one]) (fun j u hu => by
      obtain ⟨hj, rfl⟩ := newsR_at hu
      rw [show (⟨g, o', none⟩ : Addr).add j = ⟨g, o' + j, none⟩ by unfold Addr.add; split <;> simp_all]
      exact e3 j hj) (fun u hu => by
      obtain ⟨z, _, rfl⟩ := List.mem_map.1 hu
      rfl) (by omega) (by unfold maxLen; omega) (by omega)
    simp only [ho, resolve, invoke, builtin, Sem.run_bind, Sem.run_pure, Result.andThen_ok, List.map_toArray, List.map_cons, List.map_nil, hs, hx, hr]
    rw [← hap] at ho2
    refine hK _ _ (h _ w' ⟨?_, hq⟩ (Fr.app hown.2 hq hgb fun x hx k => k hx) fun x hx => ?_)
    · rw [List.length_append]; exact ho2
    · have hxg : x = g2 := by simpa [Value.ownBlock, eq_comm] using hx
      subst hxg
      rcases hgg with k | k
      · exact Or.inl k
      · exact Or.inr (by omega)
/-- A copy of a list, of up to 100,000. -/
theorem wpList_copyV (w : World) {ops : Array Oper} {rest : List Oper} {o : Oper} {a : Act} {R : Exit → Act → World → Prop} (hgd : o.guard = none) (x : Operand)
    (ho : o.op = .call { callee := .builtin .append, args := #[.const (.slice none 0 0), x], argTypes := #[24, 24] })
    (ad : Option Addr) (n c : Nat) (S : List Nat) (hn : S.length = n) (h100 : n ≤ 100000) (hx : a.eval x = .slice ad n c) (hS : USl w (.slice ad n c) S)
    (h : ∀ la lc w', Q w w' → USl w' (.slice la n lc) S → wpList Tryz.prog ops R rest (a.put o.dst (.slice la n lc)) w') :
    wpList Tryz.prog ops R (o :: rest) a w :=
  wpList_addV w w hgd (.const (.slice none 0 0)) x ho (.slice none 0 0) [] rfl (OwnR.start w w (Q.refl w)) ad n c S hx hS hn (by simpa using h100) fun v' w' hO hF hb => by
    rw [List.nil_append] at hO
    obtain ⟨la, lc, rfl⟩ := hO.form
    have hu := hO.usl
    rw [hn] at hu ⊢
    exact h la lc w' hO.2 hu

/-- Two stats of as many bits and two lists, apart. -/
structure Two (w0 w : World) (b Pa Aa Ha ka : Nat) (La Xa : List Nat) (va : Value) (Pb Ab Hb kb : Nat) (Lb Xb : List Nat) (vb : Value) : Prop where
  q : Q w0 w
  sa : StAt w Pa Aa Ha b ka La
  sb : StAt w Pb Ab Hb b kb Lb
  oa : OwnR w0 w va Xa
  ob : OwnR w0 w vb Xb
  ba : w0.heap.size ≤ Pa ∧ w0.heap.size ≤ Aa ∧ w0.heap.size ≤ Ha
  bb : w0.heap.size ≤ Pb ∧ w0.heap.size ≤ Ab ∧ w0.heap.size ≤ Hb
  ab : stB Pa Aa Ha Pb ∧ stB Pa Aa Ha Ab ∧ stB Pa Aa Ha Hb
  la : ∀ g, va.ownBlock = some g → stB Pa Aa Ha g ∧ stB Pb Ab Hb g
  lb : ∀ g, vb.ownBlock = some g → stB Pa Aa Ha g ∧ stB Pb Ab Hb g
  ll : ∀ g, vb.ownBlock = some g → va.ownBlock ≠ some g
section
variable {w0 w w' : World} {b Pa Aa Ha ka : Nat} {La Xa : List Nat} {va : Value} {Pb Ab Hb kb : Nat} {Lb Xb : List Nat} {vb : Value}
theorem Two.swap (h : Two w0 w b Pa Aa Ha ka La Xa va Pb Ab Hb kb Lb Xb vb) : Two w0 w b Pb Ab Hb kb Lb Xb vb Pa Aa Ha ka La Xa va := by
  obtain ⟨⟨a1, a2, a3⟩, ⟨b1, b2, b3⟩, ⟨c1, c2, c3⟩⟩ := h.ab
  exact ⟨h.q, h.sb, h.sa, h.ob, h.oa, h.bb, h.ba, ⟨⟨Ne.symm a1, Ne.symm b1, Ne.symm c1⟩, ⟨Ne.symm a2, Ne.symm b2, Ne.symm c2⟩, ⟨Ne.symm a3, Ne.symm b3, Ne.symm c3⟩⟩, fun g hg => ⟨(h.lb g hg).2, (h.lb g hg).1⟩, fun g hg => ⟨(h.la g hg).2, (h.la g hg).1⟩, fun g hg k => h.ll g k hg⟩
theorem Two.next (h : Two w0 w b Pa Aa Ha ka La Xa va Pb Ab Hb kb Lb Xb vb) (q : Q w w') : Two w0 w' b Pa Aa Ha ka La Xa va Pb Ab Hb kb Lb Xb vb :=
  ⟨h.q.trans q, h.sa.next q, h.sb.next q, h.oa.next q, h.ob.next q, h.ba, h.bb, h.ab, h.la, h.lb, h.ll⟩
theorem stB_low {P A H n : Nat} (h : n ≤ P ∧ n ≤ A ∧ n ≤ H) {x : Nat} (hx : x < n) : stB P A H x := by
  obtain ⟨h1, h2, h3⟩ := h
  exact ⟨by omega, by omega, by omega⟩
/-- The first stat has changed. -/
theorem Two.stat (h : Two w0 w b Pa Aa Ha ka La Xa va Pb Ab Hb kb Lb Xb vb) {La' : List Nat} (hs : StAt w' Pa Aa Ha b ka La') (f : Fr w w' (stB Pa Aa Ha)) : Two w0 w' b Pa Aa Ha ka La' Xa va Pb Ab Hb kb Lb Xb vb := by
  have q := f.q h.q fun g hg => stB_low h.ba hg
  exact ⟨q, hs, h.sb.keep f h.ab.1 h.ab.2.1 h.ab.2.2, h.oa.keep f (fun g hg => (h.la g hg).1) q, h.ob.keep f (fun g hg => (h.lb g hg).1) q, h.ba, h.bb, h.ab, h.la, h.lb, h.ll⟩
/-- The first list has changed. -/
theorem Two.list (h : Two w0 w b Pa Aa Ha ka La Xa va Pb Ab Hb kb Lb Xb vb) {Xa' : List Nat} {va' : Value} (ho : OwnR w0 w' va' Xa') (f : Fr w w' (fun g => va.ownBlock ≠ some g)) (hb : ∀ g, va'.ownBlock = some g → va.ownBlock = some g ∨ w.heap.size ≤ g) : Two w0 w' b Pa Aa Ha ka La Xa' va' Pb Ab Hb kb Lb Xb vb := by
  have la := h.sa.lt
  have lb := h.sb.lt
  have n1 : ∀ g, va.ownBlock = some g → stB Pa Aa Ha g ∧ stB Pb Ab Hb g := h.la
  refine ⟨ho.2, h.sa.keep f (fun e => ((h.la _ e).1).1 rfl) (fun e => ((h.la _ e).1).2.1 rfl) (fun e => ((h.la _ e).1).2.2 rfl), h.sb.keep f (fun e => ((h.la _ e).2).1 rfl) (fun e => ((h.la _ e).2).2.1 rfl) (fun e => ((h.la _ e).2).2.2 rfl), ho, h.ob.keep f (fun g hg => h.ll g hg) ho.2, h.ba, h.bb, h.ab, fun g hg => ?_, h.lb, fun g hg k => ?_⟩
  · rcases hb g hg with k | k
    · exact h.la g k
    · exact ⟨⟨by omega, by omega, by omega⟩, ⟨by omega, by omega, by omega⟩⟩
  · rcases hb g k with k | k
    · exact h.ll g hg k
    · have := (h.ob.blk hg).2
      omega
/-- A copy of the first stat in its place. -/
theorem Two.copy (h : Two w0 w b Pa Aa Ha ka La Xa va Pb Ab Hb kb Lb Xb vb) (q : Q w w') {P A H k : Nat} (hs : StAt w' P A H b k La) (hl : w.heap.size ≤ P ∧ w.heap.size ≤ A ∧ w.heap.size ≤ H) : Two w0 w' b P A H k La Xa va Pb Ab Hb kb Lb Xb vb := by
  have lb := h.sb.lt
  have z := h.q.1.size
  refine ⟨h.q.trans q, hs, h.sb.next q, h.oa.next q, h.ob.next q, ⟨by omega, by omega, by omega⟩, h.bb, ⟨⟨by omega, by omega, by omega⟩, ⟨by omega, by omega, by omega⟩, ⟨by omega, by omega, by omega⟩⟩, fun g hg => ⟨?_, (h.la g hg).2⟩, fun g hg => ⟨?_, (h.lb g hg).2⟩, h.ll⟩
  · have := (h.oa.blk hg).2
    exact ⟨by omega, by omega, by omega⟩
  · have := (h.ob.blk hg).2
    exact ⟨by omega, by omega, by omega⟩
/-- A third stat has changed. -/
theorem Two.third (h : Two w0 w b Pa Aa Ha ka La Xa va Pb Ab Hb kb Lb Xb vb) {P A H : Nat} (f : Fr w w' (stB P A H)) (hlo : w0.heap.size ≤ P ∧ w0.heap.size ≤ A ∧ w0.heap.size ≤ H) (ha : stB P A H Pa ∧ stB P A H Aa ∧ stB P A H Ha) (hb : stB P A H Pb ∧ stB P A H Ab ∧ stB P A H Hb)
    (la : ∀ g, va.ownBlock = some g → stB P A H g) (lb : ∀ g, vb.ownBlock = some g → stB P A H g) : Two w0 w' b Pa Aa Ha ka La Xa va Pb Ab Hb kb Lb Xb vb := by
  have q := f.q h.q fun g hg => stB_low hlo hg
  exact ⟨q, h.sa.keep f ha.1 ha.2.1 ha.2.2, h.sb.keep f hb.1 hb.2.1 hb.2.2, h.oa.keep f la q, h.ob.keep f lb q, h.ba, h.bb, h.ab, h.la, h.lb, h.ll⟩
/-- A copy in the first one's place; then the old one changes. -/
theorem Two.old (h : Two w0 w b Pa Aa Ha ka La Xa va Pb Ab Hb kb Lb Xb vb) {w1 : World} (q : Q w w1) {P A H k : Nat} (hs : StAt w1 P A H b k La) (hl : w.heap.size ≤ P ∧ w.heap.size ≤ A ∧ w.heap.size ≤ H) (f : Fr w1 w' (stB Pa Aa Ha)) : Two w0 w' b P A H k La Xa va Pb Ab Hb kb Lb Xb vb := by
  have l := h.sa.lt
  refine (h.copy q hs hl).third f h.ba ⟨⟨by omega, by omega, by omega⟩, ⟨by omega, by omega, by omega⟩, ⟨by omega, by omega, by omega⟩⟩ h.ab (fun g hg => (h.la g hg).1) (fun g hg => (h.lb g hg).1)
end
end Go.Proofs.YtieojgblamkgoaaGreatDoor
/- stat: the chapter's example. -/
namespace Go.Proofs.YtieojgblamkgoaaGreatDoor
open Go.RowKit
set_option linter.unusedVariables false
set_option linter.unusedSimpArgs false
set_option maxRecDepth 100000

def kf4 : List Nat := [1065353216, 1073741824, 1082130432, 2147483648]
theorem kf4_crop : crL 2 0 0 2 2 kf4 = kf4 := by decide +kernel
theorem kf4_lt : ∀ i, kf4.getD i 0 < 4294967296 := (small_of (l := kf4) (by decide)).2
theorem kf4_mean : smeanV kf4 = (1071644672, 0) := by decide +kernel
theorem kf4_sum : sumV kf4 1 = 1088421888 := by decide +kernel
theorem kf4_ends : endsV kf4 = (2147483648, 1082130432, 0) := by decide +kernel
theorem kf4_rank : rkV kf4 1 = 1065353216 := by
  have h : isRk kf4 1 0 := by unfold isRk; decide +kernel
  have := isRk_val (L := kf4) (small_of (l := kf4) (by decide)).1 (k := 1) (i := 0) (by decide) (by decide) h
  rw [← this]; rfl
theorem kf4_share : sshV 0 kf4 1 2 = (1065353216, 0) := by
  unfold sshV srkV
  rw [if_neg (by decide), if_neg (by decide), if_neg (by decide), if_neg (by decide)]
  show (rkV kf4 1, _) = _
  rw [kf4_rank]
set_option maxHeartbeats 1000000 in
theorem four16_any (w : World) : Calls Tryz.prog 36 #[] w fun e w' => ∃ g, e = .returned (.agg #[.int .i64 2, .int .i64 2, .slice (some ⟨g, 0, none⟩) 4 4]) ∧ UIs w' g 0 kf4 ∧ Q w w' := by
  obtain ⟨w2, hw2⟩ : ∃ w2, (w.alloc (.cells #[.int .i64 0, .int .i64 0, .slice none 0 0] 26)).alloc (.cells #[.int .u32 1065353216, .int .u32 1073741824, .int .u32 1082130432, .int .u32 2147483648] 43) = w2 := ⟨_, rfl⟩
  have q2 : Hid (Q w w2) := by rw [← hw2]; exact ((Q.refl w).cells _ _).cells _ _
  have z0 : w2.cell? ⟨w.heap.size, 0, none⟩ = some (.int .i64 0) := by rw [← hw2]; simp [go_sem]
  have z1 : w2.cell? ⟨w.heap.size, 1, none⟩ = some (.int .i64 0) := by rw [← hw2]; simp [go_sem]
  have z2 : w2.cell? ⟨w.heap.size, 2, none⟩ = some (.slice none 0 0) := by rw [← hw2]; simp [go_sem]
  have zf : ∀ j, w2.frozen? ⟨w.heap.size, j, none⟩ = false := fun j => by rw [← hw2]; simp [go_sem]
  have HI : Hid (UIs w2 (w.heap.size + 1) 0 kf4) := by
    intro i hi
    rcases i with _ | _ | _ | _ | i
    · rw [← hw2]; simp [go_sem, kf4]
    · rw [← hw2]; simp [go_sem, kf4]
    · rw [← hw2]; simp [go_sem, kf4]
    · rw [← hw2]; simp [go_sem, kf4]
    · simp [kf4] at hi; omega
  go_enter Tryz.func36, Tryz.ntmps36
  go_wp2_with fail
  refine bodyPost_ret (v := .agg #[.int .i64 2, .int .i64 2, .slice (some ⟨w.heap.size + 1, 0, none⟩) 4 4]) (by simp [results, Tryz.results36, go_sem, z0, z1, z2]) rfl ⟨_, rfl, ?_, ?_⟩
  · intro i hi
    rw [World.cell?_setCell_other _ _ _ _ (fun e => by injection e with e; omega), World.cell?_setCell_other _ _ _ _ (fun e => by injection e with e; omega), World.cell?_setCell_other _ _ _ _ (fun e => by injection e with e; omega)]
    exact HI.out i hi
  · exact ((q2.out.set (Nat.le_refl _) _).set (Nat.le_refl _) _).set (Nat.le_refl _) _
set_option maxHeartbeats 4000000 in
theorem known16_any (w : World) (hT : Tab w) : Calls Tryz.prog 9 #[] w fun e w' => e = .returned (.bool true) ∧ Qb w w' := by
  have HT : Hid (Tab w) := hT
  clear hT
  go_enter Tryz.func9, Tryz.ntmps9
  go_wp2_with fail
  refine Calls.mono (snew_good 4 (by decide) (by decide) _) ?_
  rintro e w1 ⟨P, A, H, kc, rfl, lP, lA, lH, hS, q1⟩
  have HS1 : Hid (StAt w1 P A H 4 kc []) := hS
  have HQ1 : Hid (Q w w1) := q1
  clear hS q1
  go_wp2_with fail
  refine Calls.mono (four16_any _) ?_
  rintro e w2 ⟨g, rfl, hI, q2⟩
  have HS2 : Hid (StAt w2 P A H 4 kc []) := HS1.out.next q2
  have HQ2 : Hid (Q w w2) := HQ1.out.trans q2
  have hPl : Pl w2 g 0 4 4 2 2 kf4 := ⟨⟨by decide, by decide, by decide, by decide, by decide⟩, rfl, rfl, Nat.le_refl _, hI⟩
  have KA := sadd_good P A H 4 kc [] w2 HS2.out hPl (x0 := 0) (y0 := 0) (c := 2) (d := 2) ⟨by decide, by decide, by decide, by decide⟩ 2 2 rfl rfl (by rw [kf4_crop]; exact kf4_lt) (by decide)
  rw [kf4_crop, List.nil_append] at KA
  have HKA : Hid _ := KA
  clear HS1 HQ1 q2 hI hPl KA
  go_wp2_with fail
  refine Calls.mono HKA.out ?_
  rintro e w3 ⟨rfl, hS3, f3⟩
  have HQ3 : Hid (Q w w3) := f3.q HQ2.out (fun b hb => ⟨by omega, by omega, by omega⟩)
  have HS3 : Hid (StAt w3 P A H 4 kc kf4) := hS3
  have HT3 : Hid (Tab w3) := HQ3.out.tab HT.out
  clear hS3 f3 HQ2 HS2 HKA
  go_wp2_with fail
  have KM := smean_any P A H 4 kc kf4 w3 HS3.out (small_of (l := kf4) (by decide)).1 (by decide) HT3.out
  rw [kf4_mean] at KM
  refine Calls.mono KM ?_
  rintro e w4 ⟨rfl, q4⟩
  have HQ4 : Hid (Q w w4) := HQ3.out.trans q4
  have HS4 : Hid (StAt w4 P A H 4 kc kf4) := HS3.out.next q4
  clear KM q4 HQ3 HS3 HT3
  go_wp2_with fail
  have KE := sends_any P A H 4 kc kf4 w4 HS4.out (small_of (l := kf4) (by decide)).1
  rw [kf4_ends] at KE
  refine Calls.mono KE ?_
  rintro e w5 ⟨rfl, q5⟩
  have HQ5 : Hid (Q w w5) := HQ4.out.trans q5
  have HS5 : Hid (StAt w5 P A H 4 kc kf4) := HS4.out.next q5
  clear KE q5 HQ4 HS4
  go_wp2_with fail
  refine Calls.mono (four16_any _) ?_
  rintro e w6 ⟨g6, rfl, hI6, q6⟩
  have HQ6 : Hid (Q w w6) := HQ5.out.trans q6
  have HS6 : Hid (StAt w6 P A H 4 kc kf4) := HS5.out.next q6
  have KR := sshare_any 2 2 (some ⟨g6, 0, none⟩) 4 4 kf4 1 2 w6 (hI6.usl (cap := 4) (by decide)) rfl kf4_lt (by decide)
  rw [show chk 2 2 4 = 0 by decide, kf4_share] at KR
  have HKR : Hid _ := KR
  clear q6 hI6 HQ5 HS5 KR
  go_wp2_with fail
  refine Calls.mono HKR.out ?_
  rintro e w7 ⟨rfl, q7⟩
  have HQ7 : Hid (Qb w w7) := HQ6.out.qb.trans q7
  have HS7 : Hid (StAt w7 P A H 4 kc kf4) := HS6.out.nextB q7
  clear q7 HQ6 HS6 HKR
  have p0 := HS7.out.p0
  have HT7 : Hid (Tab w7) := fun j hj => HQ7.out.cell (HT.out j hj)
  obtain ⟨N, hA⟩ := HS7.out.acc
  have KC := acount_any A (4 : Int) w7 hA.c
  have KS := asum_any kf4 A 4 N w7 hA (sumZ_fits (small_of (l := kf4) (by decide)).1 (by decide)) HT7.out
  rw [kf4_sum] at KS
  have HKS : Hid _ := KS
  clear hA KS HT7 HT
  go_wp2_with fail
  refine Calls.mono KC ?_
  rintro e w8 ⟨rfl, hw8⟩
  obtain rfl := hw8.symm
  clear hw8
  go_wp2_with fail
  refine Calls.mono HKS.out ?_
  rintro e w9 ⟨rfl, q9⟩
  have HQ9 : Hid (Qb w w9) := HQ7.out.trans q9.qb
  clear q9 HKS KC
  go_wp2_with fail
  go_ret
  exact ⟨rfl, HQ9.out⟩
end Go.Proofs.YtieojgblamkgoaaGreatDoor
