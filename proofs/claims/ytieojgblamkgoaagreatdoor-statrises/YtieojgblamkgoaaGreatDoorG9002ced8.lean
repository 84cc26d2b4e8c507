/- stat: a plane levelled. -/
import Derived.Test.YtieojgblamkgoaaGreatDoorG21dea03d
import Derived.Test.YtieojgblamkgoaaGreatDoorG5d60fafd
namespace Go.Proofs.YtieojgblamkgoaaGreatDoor
open Go.RowKit
set_option linter.unusedVariables false
set_option linter.unusedSimpArgs false

section
variable {P : Program} {l : List Oper} {rd : List Nat} {ords : List (List Nat)} {C : World → Prop} {N : Act → World → Prop} {n : Nat} {p : List Nat} {A : Act} {x : World}
theorem treeS_skip (k : Nat) (hk : ((nexts ords p).all fun j => j == k) = true) {o : Oper} (ho : l[k]? = some o) {x' : World} (hr : (execOp A.eval o).run P x = .ok .skip x') (hC : C x') (h : wpTree P l rd ords C N n (p ++ [k]) (A.put o.dst undef) x') : wpTree P l rd ords C N (n + 1) p A x :=
  tree_one k hk ho (does_skip hr ⟨fun _ => hC, h⟩)
end
section
variable {ρ : Operand → Value} {x y : World} {d : Option Tmp} {ty : TypeId} {ps : String} {af : Array Edge} {gd : Option (Nat × Bool)}
theorem srun_make {j n : Nat} {v : Value} (h : ρ (.tmp j) = .int .i64 (n : Int)) (hm : (Instr.makeSlice 24 (.int .i64 (n : Int)) (.int .i64 (n : Int))).run Tryz.prog x = .ok v y) : (execOp ρ { dst := d, op := .makeSlice 24 (.tmp j) (.tmp j), type := ty, pos := ps, after := af, guard := gd }).run Tryz.prog x = .ok (.value v) y := by
  simp [execOp, h, hm]
end
set_option maxHeartbeats 8000000 in
set_option maxRecDepth 100000 in
theorem levelled_any (b : Nat) (pw ph : Int) (g o cap : Nat) (S : List Nat) (w : World) (h1 : 1 ≤ b) (h2 : b ≤ 12) (hI : UIs w g o S) (hcap : S.length ≤ cap) (hb : ∀ i, S.getD i 0 < 4294967296) (hn1 : 1 ≤ S.length) (hn : S.length ≤ 16384) :
    Calls Tryz.prog 60 #[.agg #[.int .i64 pw, .int .i64 ph, .slice (some ⟨g, o, none⟩) S.length cap], .int .i64 (b : Int)] w fun e w' => ∃ G, e = .returned (.agg #[.int .i64 pw, .int .i64 ph, .slice (some ⟨G, 0, none⟩) S.length S.length]) ∧ VR w' G S.length (fun i => .int .u32 ((lvlV b S (S.getD i 0) : Nat) : Int)) ∧ w.heap.size ≤ G ∧ Q w w' := by
  have hU : USl w (.slice (some ⟨g, o, none⟩) S.length cap) S := hI.usl hcap
  obtain ⟨w1, hw1⟩ : ∃ w1, (w.alloc (.cells #[.int .i64 pw, .int .i64 ph, .slice (some ⟨g, o, none⟩) S.length cap] 26)).alloc (.cells #[.int .i64 0, .int .i64 0, .slice none 0 0] 26) = w1 := ⟨_, rfl⟩
  obtain ⟨A, hA⟩ : ∃ A, w.heap.size = A := ⟨_, rfl⟩
  have q1 : Q w w1 := by rw [← hw1]; exact ((Q.refl w).cells _ _).cells _ _
  have s1 : w1.heap.size = A + 2 := by rw [← hw1, ← hA]; simp [go_sem]
  have x0 : w1.cell? ⟨A, 0, none⟩ = some (.int .i64 pw) := by rw [← hw1, ← hA]; simp [go_sem]
  have x1 : w1.cell? ⟨A, 1, none⟩ = some (.int .i64 ph) := by rw [← hw1, ← hA]; simp [go_sem]
  have x2 : w1.cell? ⟨A, 2, none⟩ = some (.slice (some ⟨g, o, none⟩) S.length cap) := by rw [← hw1, ← hA]; simp [go_sem]
  have r0 : w1.cell? ⟨A + 1, 0, none⟩ = some (.int .i64 0) := by rw [← hw1, ← hA]; simp [go_sem]
  have r1 : w1.cell? ⟨A + 1, 1, none⟩ = some (.int .i64 0) := by rw [← hw1, ← hA]; simp [go_sem]
  have r2 : w1.cell? ⟨A + 1, 2, none⟩ = some (.slice none 0 0) := by rw [← hw1, ← hA]; simp [go_sem]
  have rf : ∀ j, w1.frozen? ⟨A + 1, j, none⟩ = false := fun j => by rw [← hw1, ← hA]; simp [go_sem]
  have HU : Hid (USl w (.slice (some ⟨g, o, none⟩) S.length cap) S) := hU
  have HQ1 : Hid (Q w w1) := q1
  go_enter Tryz.func60, Tryz.ntmps60
  go_wp2_with fail
  clear hw1
  have HQ1f : Hid (Q w w1) := HQ1.out
  refine Calls.mono (notally_any b h1 h2 _) ?_
  rintro e w2 ⟨H, rfl, l2, l2', hV2, q2⟩
  obtain ⟨w3, hw3⟩ : ∃ w3, w2.alloc (.cells #[.int .i64 (b : Int), .slice (some ⟨H, 0, none⟩) (2 ^ b) (2 ^ b)] 72) = w3 := ⟨_, rfl⟩
  obtain ⟨B, hB⟩ : ∃ B, w2.heap.size = B := ⟨_, rfl⟩
  have q3 : Q w2 w3 := by rw [← hw3]; exact (Q.refl w2).cells _ _
  have t0 : w3.cell? ⟨B, 0, none⟩ = some (.int .i64 (b : Int)) := by rw [← hw3, ← hB]; simp [go_sem]
  have t1 : w3.cell? ⟨B, 1, none⟩ = some (.slice (some ⟨H, 0, none⟩) (2 ^ b) (2 ^ b)) := by rw [← hw3, ← hB]; simp [go_sem]
  have x0 := (q2.trans q3).cell x0
  have x1 := (q2.trans q3).cell x1
  have x2 := (q2.trans q3).cell x2
  have r0 := (q2.trans q3).cell r0
  have r1 := (q2.trans q3).cell r1
  have r2 := (q2.trans q3).cell r2
  have hV3 := hV2.next q3
  have HQ3 : Hid (Q w w3) := (HQ1.out.trans q2).trans q3
  have hU3 := HU.out.next HQ3.out
  have lB : A + 1 < B ∧ A + 1 < H ∧ H < B := by have := q2.1.size; omega
  clear q1 q2 q3 HQ1 hV2 hU s1
  unfold talV
  go_wp2_with fail
  clear hw3
  refine Calls.mono (wnan_any _ S _ hU3 hb (by omega)) ?_
  rintro e w4 ⟨u, rfl, hu, hug, q4⟩
  obtain ⟨ua, uc, rfl⟩ := hu.form
  have hsz3 : w3.heap.size ≤ w4.heap.size := q4.1.size
  have lB3 : B < w3.heap.size := World.block_lt_of_cell? _ _ t0
  have x0 := q4.cell x0
  have x1 := q4.cell x1
  have x2 := q4.cell x2
  have r0 := q4.cell r0
  have r1 := q4.cell r1
  have r2 := q4.cell r2
  have t0 := q4.cell t0
  have t1 := q4.cell t1
  have hV4 := hV3.next q4
  have HQ4 : Hid (Q w w4) := HQ3.out.trans q4
  have hNb : ∀ i, (numL S).getD i 0 < 4294967296 := fun i => by
    rcases Nat.lt_or_ge i (numL S).length with k | k
    · rw [List.getD_eq_getElem?_getD, List.getElem?_eq_getElem k]
      have hm := (numL_mem (List.getElem_mem k)).1
      obtain ⟨i', hi', e'⟩ := List.getElem_of_mem hm
      have := hb i'
      rw [List.getD_eq_getElem?_getD, List.getElem?_eq_getElem hi', e'] at this
      exact this
    · rw [List.getD_eq_getElem?_getD, List.getElem?_eq_none k]; decide
  have hNl : (numL S).length ≤ S.length := numL_len S
  have KT := tadd_any b H (2 ^ b) (fun _ => 0) _ (numL S) w4 h1 h2 hV4 (Nat.le_refl _) (fun _ => Nat.zero_le _) hu (fun g' o' c' _ e => by have := hug g' o' c' e; omega) hNb (by omega)
  unfold talV at KT
  clear hV3 hV4 q4 HQ3 hU3 hug
  go_wp2_with fail
  refine Calls.mono KT ?_
  rintro e w5 ⟨rfl, hV5, f5⟩
  clear KT
  have hV5 : VR w5 H (2 ^ b) (fun j => .int .i64 ((clsC b (numL S) j : Nat) : Int)) := hV5.congr fun j _ => by rw [Nat.zero_add]
  have x0 := f5.cell x0 (show A ≠ H by omega)
  have x1 := f5.cell x1 (show A ≠ H by omega)
  have x2 := f5.cell x2 (show A ≠ H by omega)
  have r0 := f5.cell r0 (show A + 1 ≠ H by omega)
  have r1 := f5.cell r1 (show A + 1 ≠ H by omega)
  have r2 := f5.cell r2 (show A + 1 ≠ H by omega)
  have t0 := f5.cell t0 (show B ≠ H by omega)
  have t1 := f5.cell t1 (show B ≠ H by omega)
  have HQ5 : Hid (Q w w5) := f5.q HQ4.out (by omega)
  have KU := upto_any b H (2 ^ b) (clsC b (numL S)) w5 h2 hV5 (fun j => by have := preN_le b (numL S) j; omega)
  unfold talV at KU
  clear hu f5 HQ4 hNb
  go_wp2_with fail
  refine Calls.mono KU ?_
  rintro e w6 ⟨G, rfl, hG, lG, q6⟩
  clear KU hV5
  have x0 := q6.cell x0
  have x1 := q6.cell x1
  have x2 := q6.cell x2
  have r0 := q6.cell r0
  have r1 := q6.cell r1
  have r2 := q6.cell r2
  have t0 := q6.cell t0
  have t1 := q6.cell t1
  have HQ6 : Hid (Q w w6) := HQ5.out.trans q6
  have HG : Hid (∀ z, Q w6 z → ∀ j, j < 2 ^ b → z.cell? ⟨G, j, none⟩ = some (.int .i64 ((preN (clsC b (numL S)) j : Nat) : Int))) := fun z q j hj => q.cell (hG.cell j hj)
  clear q6 hG HQ5
  have HI : Hid (UIs w g o S) := hI
  have HB : Hid (∀ i, S.getD i 0 < 4294967296) := hb
  have HRF : Hid (∀ j, w6.frozen? ⟨A + 1, j, none⟩ = false) := fun j => by rw [HQ6.out.2, ← HQ1f.out.2]; exact rf j
  have HL6 : Hid (A + 1 < w6.heap.size ∧ w.heap.size ≤ A + 1) := ⟨World.block_lt_of_cell? _ _ r0, by omega⟩
  have HLA : Hid (w.heap.size ≤ A + 1) := HL6.out.2
  have hNl' : (numL S).length ≤ 16384 := by omega
  obtain ⟨M, hM, hV⟩ := make_vu S.length (by omega)
  clear hI hb rf HQ1f
  have n0 := qw_some w6
  have f0 := qw_cell x0
  have f1 := qw_cell x1
  have f2 := qw_cell x2
  go_wp2_with fail
  refine wp_region_mk [0, 1, 2, 3, 4, 5] [[9, 6, 7, 8, 10], [6, 9, 7, 8, 10], [6, 7, 9, 8, 10], [6, 7, 8, 9, 10]] 5 _ (by kernel_rfl) (by kernel_rfl) rfl (by kernel_rfl) ?_
  simp only [List.filterMap_cons, List.filterMap_nil, List.getElem?_cons_zero, List.getElem?_cons_succ]
  repeat (first | go_big_quiet_step (fail) | quiet_step (fail))
  refine wpQuiet_nil ?_
  clear n0 f0 f1 f2
  · intro x hx
    refine tree_or 9 6 (by kernel_rfl) rfl rfl ?_ ?_
    · have q9 : Q w6 (x.alloc (.cells #[.int .i64 0, .int .i64 0, .slice none 0 0] 26)) := hx.trans ((Q.refl x).cells _ _)
      refine does_value (v := .pointer (some ⟨x.heap.size, 0, none⟩)) (x' := x.alloc (.cells #[.int .i64 0, .int .i64 0, .slice none 0 0] 26)) (by simp [execOp, go_sem, Act.eval, Act.put]) ⟨fun _ => q9, ?_⟩
      obtain ⟨Y, hY⟩ : ∃ Y, x.heap.size = Y := ⟨_, rfl⟩
      have y0 : (x.alloc (.cells #[.int .i64 0, .int .i64 0, .slice none 0 0] 26)).cell? ⟨x.heap.size, 0, none⟩ = some (.int .i64 0) := by simp [go_sem]
      have y1 : (x.alloc (.cells #[.int .i64 0, .int .i64 0, .slice none 0 0] 26)).cell? ⟨x.heap.size, 1, none⟩ = some (.int .i64 0) := by simp [go_sem]
      have y2 : (x.alloc (.cells #[.int .i64 0, .int .i64 0, .slice none 0 0] 26)).cell? ⟨x.heap.size, 2, none⟩ = some (.slice none 0 0) := by simp [go_sem]
      have yf : ∀ j, (x.alloc (.cells #[.int .i64 0, .int .i64 0, .slice none 0 0] 26)).frozen? ⟨x.heap.size, j, none⟩ = false := fun j => by simp [go_sem]
      have sz9 : (x.alloc (.cells #[.int .i64 0, .int .i64 0, .slice none 0 0] 26)).heap.size = x.heap.size + 1 := by simp [go_sem]
      generalize x.alloc (.cells #[.int .i64 0, .int .i64 0, .slice none 0 0] 26) = xb at *
      rw [hY] at y0 y1 y2 yf sz9 ⊢
      refine treeS_run 6 (by kernel_rfl) rfl (v := .int .i64 (S.length : Int)) (x' := xb) (by simp [execOp, resolve, invoke, builtin, go_sem, Act.eval, Act.put]) q9 ?_
      have hm7 := hM xb
      have q7 : Q w6 (xb.alloc (.cells M 43)) := q9.trans ((Q.refl xb).cells _ _)
      refine treeS_run 7 (by kernel_rfl) rfl (v := .slice (some ⟨xb.heap.size, 0, none⟩) S.length S.length) (x' := xb.alloc (.cells M 43)) (srun_make (n := S.length) (by kernel_rfl) hm7) q7 ?_
      have vX := hV xb
      obtain ⟨X, hX⟩ : ∃ X, xb.heap.size = X := ⟨_, rfl⟩
      have sz7 : (xb.alloc (.cells M 43)).heap.size = xb.heap.size + 1 := by simp [go_sem]
      have y0 := ((Q.refl xb).cells M 43).cell y0
      have y1 := ((Q.refl xb).cells M 43).cell y1
      have y2 := ((Q.refl xb).cells M 43).cell y2
      have yf : ∀ j, (xb.alloc (.cells M 43)).frozen? ⟨Y, j, none⟩ = false := fun j => by rw [((Q.refl xb).cells M 43).2]; exact yf j
      generalize xb.alloc (.cells M 43) = xa at *
      rw [hX] at vX sz7 ⊢
      refine treeS_run 8 (by kernel_rfl) rfl (v := .agg #[.int .i64 pw, .int .i64 ph, .slice (some ⟨X, 0, none⟩) S.length S.length]) (x' := xa) (by simp [execOp, go_sem, Act.eval, Act.put]) q7 ?_
      have hXY : X ≠ Y ∧ w6.heap.size ≤ X ∧ w6.heap.size ≤ Y := by have := hx.1.size; omega
      have qz : Q w6 (((xa.setCell ⟨Y, 0, none⟩ (.int .i64 pw)).setCell ⟨Y, 1, none⟩ (.int .i64 ph)).setCell ⟨Y, 2, none⟩ (.slice (some ⟨X, 0, none⟩) S.length S.length)) := ((q7.set hXY.2.2 _).set hXY.2.2 _).set hXY.2.2 _
      refine treeS_skip 10 (by kernel_rfl) rfl (x' := ((xa.setCell ⟨Y, 0, none⟩ (.int .i64 pw)).setCell ⟨Y, 1, none⟩ (.int .i64 ph)).setCell ⟨Y, 2, none⟩ (.slice (some ⟨X, 0, none⟩) S.length S.length)) (by simp [execOp, go_sem, Act.eval, Act.put, y0, y1, y2, yf]) qz ?_
      refine tree_nil ?_
      simp only [Act.put, List.setIfInBounds_toArray, List.set_cons_succ, List.set_cons_zero]
      have HW : Hid ((((xa.setCell ⟨Y, 0, none⟩ (.int .i64 pw)).setCell ⟨Y, 1, none⟩ (.int .i64 ph)).setCell ⟨Y, 2, none⟩ (.slice (some ⟨X, 0, none⟩) S.length S.length)).cell? ⟨Y, 0, none⟩ = some (.int .i64 pw) ∧ (((xa.setCell ⟨Y, 0, none⟩ (.int .i64 pw)).setCell ⟨Y, 1, none⟩ (.int .i64 ph)).setCell ⟨Y, 2, none⟩ (.slice (some ⟨X, 0, none⟩) S.length S.length)).cell? ⟨Y, 1, none⟩ = some (.int .i64 ph) ∧ (((xa.setCell ⟨Y, 0, none⟩ (.int .i64 pw)).setCell ⟨Y, 1, none⟩ (.int .i64 ph)).setCell ⟨Y, 2, none⟩ (.slice (some ⟨X, 0, none⟩) S.length S.length)).cell? ⟨Y, 2, none⟩ = some (.slice (some ⟨X, 0, none⟩) S.length S.length) ∧ VR (((xa.setCell ⟨Y, 0, none⟩ (.int .i64 pw)).setCell ⟨Y, 1, none⟩ (.int .i64 ph)).setCell ⟨Y, 2, none⟩ (.slice (some ⟨X, 0, none⟩) S.length S.length)) X S.length (fun _ => .int .u32 0) ∧ Q w6 (((xa.setCell ⟨Y, 0, none⟩ (.int .i64 pw)).setCell ⟨Y, 1, none⟩ (.int .i64 ph)).setCell ⟨Y, 2, none⟩ (.slice (some ⟨X, 0, none⟩) S.length S.length))) := ⟨by simp [go_sem, y0, y1, y2], by simp [go_sem, y0, y1, y2], by simp [go_sem, y0, y1, y2], ((vX.other (p := ⟨Y, 0, none⟩) (fun e => hXY.1 e.symm) _).other (p := ⟨Y, 1, none⟩) (fun e => hXY.1 e.symm) _).other (p := ⟨Y, 2, none⟩) (fun e => hXY.1 e.symm) _, qz⟩
      generalize (((xa.setCell ⟨Y, 0, none⟩ (.int .i64 pw)).setCell ⟨Y, 1, none⟩ (.int .i64 ph)).setCell ⟨Y, 2, none⟩ (.slice (some ⟨X, 0, none⟩) S.length S.length)) = z at HW ⊢
      have HXY : Hid (X ≠ Y ∧ w6.heap.size ≤ X) := ⟨hXY.1, hXY.2.1⟩
      have HXA : Hid (X ≠ A + 1 ∧ w.heap.size ≤ X) := by have := HL6.out; show _ ∧ _; omega
      clear hXY qz hx y0 y1 y2 yf sz9 sz7 vX hX hY q7 q9 hm7 hM hV
      have hy0 := HW.out.1
      have hy1 := HW.out.2.1
      have hy2 := HW.out.2.2.1
      have HV0 : Hid (VR z X S.length (sofar (fun i => .int .u32 ((lvlV b S (S.getD i 0) : Nat) : Int)) (.int .u32 0) 0) ∧ Q w6 z ∧ z.cell? ⟨Y, 0, none⟩ = some (.int .i64 pw) ∧ z.cell? ⟨Y, 1, none⟩ = some (.int .i64 ph) ∧ z.cell? ⟨Y, 2, none⟩ = some (.slice (some ⟨X, 0, none⟩) S.length S.length)) := ⟨by rw [sofar_zero]; exact HW.out.2.2.2.1, HW.out.2.2.2.2, hy0, hy1, hy2⟩
      have hz2 := (HW.out.2.2.2.2).cell x2
      clear HW
      go_wp2_with fail
      clear hy0 hy1 hy2 hz2
      go_loopg [33] S.length (fun m s33 wr => ∃ i : Nat, s33 = .int .i64 (i : Int) ∧ i + m = S.length ∧ Hid (VR wr X S.length (sofar (fun i => .int .u32 ((lvlV b S (S.getD i 0) : Nat) : Int)) (.int .u32 0) i) ∧ Q w6 wr ∧ wr.cell? ⟨Y, 0, none⟩ = some (.int .i64 pw) ∧ wr.cell? ⟨Y, 1, none⟩ = some (.int .i64 ph) ∧ wr.cell? ⟨Y, 2, none⟩ = some (.slice (some ⟨X, 0, none⟩) S.length S.length)))
      case atStart => exact ⟨0, rfl, by omega, HV0⟩
      case round =>
        clear HV0
        obtain ⟨i, rfl, hi, HX⟩ := hrel
        by_cases hlt : i < S.length
        · have hc := HX.out.2.1.cell (HQ6.out.cell (HI.out i hlt))
          have hx := HB.out i
          have hki : (i : Int) < (S.length : Int) := by omega
          obtain ⟨u, hu⟩ : ∃ u, wr.cell? ⟨X, i, none⟩ = some u := ⟨_, HX.out.1.cell i hlt⟩
          have hu0 := hu
          have fu := HX.out.1.free i
          have c2 := HX.out.2.2.2.2
          have HNx : Hid (∀ v, v = lvlV b S (S.getD i 0) → VR (wr.setCell ⟨X, i, none⟩ (.int .u32 (v : Int))) X S.length (sofar (fun i => .int .u32 ((lvlV b S (S.getD i 0) : Nat) : Int)) (.int .u32 0) (i + 1)) ∧ Q w6 (wr.setCell ⟨X, i, none⟩ (.int .u32 (v : Int))) ∧ (wr.setCell ⟨X, i, none⟩ (.int .u32 (v : Int))).cell? ⟨Y, 0, none⟩ = some (.int .i64 pw) ∧ (wr.setCell ⟨X, i, none⟩ (.int .u32 (v : Int))).cell? ⟨Y, 1, none⟩ = some (.int .i64 ph) ∧ (wr.setCell ⟨X, i, none⟩ (.int .u32 (v : Int))).cell? ⟨Y, 2, none⟩ = some (.slice (some ⟨X, 0, none⟩) S.length S.length)) := fun v hv => by
            have hne : ∀ j : Nat, (⟨Y, j, none⟩ : Addr) ≠ ⟨X, i, none⟩ := fun j e => by injection e with e; exact HXY.out.1 e.symm
            refine ⟨HX.out.1.fill hlt (by rw [hv]), HX.out.2.1.set HXY.out.2 _, ?_, ?_, ?_⟩
            · rw [World.cell?_setCell_other _ _ _ _ (fun e => by injection e with e; exact HXY.out.1 (by omega))]; exact HX.out.2.2.1
            · rw [World.cell?_setCell_other _ _ _ _ (fun e => by injection e with e; exact HXY.out.1 (by omega))]; exact HX.out.2.2.2.1
            · rw [World.cell?_setCell_other _ _ _ _ (fun e => by injection e with e; exact HXY.out.1 (by omega))]; exact HX.out.2.2.2.2
          obtain ⟨s, hs⟩ : ∃ s, S.getD i 0 = s := ⟨_, rfl⟩
          have HMem : Hid (s ∈ S) := by
            show s ∈ S
            rw [← hs, List.getD_eq_getElem?_getD, List.getElem?_eq_getElem hlt]
            exact List.getElem_mem hlt
          rw [hs] at hc hx HNx
          cases hk : nanN s
          · have HNu : Hid (1 ≤ (numL S).length ∧ lvlV b S s = shN (preN (clsC b (numL S)) (clsN b s)) (numL S).length) := by
              refine ⟨?_, ?_⟩
              · have : s ∈ numL S := by unfold numL; rw [List.mem_filter]; exact ⟨HMem.out, by rw [hk]; rfl⟩
                exact List.length_pos_of_mem this
              · unfold lvlV; rw [hk]; rfl
            have hcl : clsN b s < 2 ^ b := cls_lt h2 hx
            have hGc := HG.out wr HX.out.2.1 _ hcl
            have HCx : Hid (∀ x, Calls Tryz.prog 85 #[.agg #[.int .i64 (b : Int), .slice (some ⟨H, 0, none⟩) (2 ^ b) (2 ^ b)], .int .u32 (s : Int)] x fun e w' => e = .returned (.int .i64 (clsN b s : Nat)) ∧ Q x w') := fun x => scls_any b s h1 h2 hx H (2 ^ b) (2 ^ b) x
            have HSh0 : Hid (∀ x, Calls Tryz.prog 84 #[.int .i64 ((preN (clsC b (numL S)) (clsN b s) : Nat) : Int), .int .i64 ((numL S).length : Int)] x fun e w' => e = .returned (.int .u32 (shN (preN (clsC b (numL S)) (clsN b s)) (numL S).length : Nat)) ∧ w' = x) := fun x => sshr_any _ _ HNu.out.1 (by omega) (preN_le b (numL S) _) x
            have t0r := HX.out.2.1.cell t0
            have t1r := HX.out.2.1.cell t1
            have HNy := HNx.out _ HNu.out.2.symm
            clear HNx HNu HMem
            generalize shN (preN (clsC b (numL S)) (clsN b s)) (numL S).length = v at *
            generalize preN (clsC b (numL S)) (clsN b s) = pm at *
            generalize clsN b s = k at *
            have HNz : Hid _ := HNy
            clear HNy hs
            have hkk : (k : Int) < ((2 ^ b : Nat) : Int) := by omega
            generalize 2 ^ b = N at *
            go_wp2_with fail
            refine (isnan_any s hx _).mono ?_
            rintro e w8 ⟨rfl, q8⟩
            rw [hk]
            have e0 := q8.cell c2
            have e1 := q8.cell t0r
            have e2 := q8.cell t1r
            have e3 := q8.cell hGc
            have d0 := qw_cell e0
            have d1 := qw_cell e1
            have d2 := qw_cell e2
            have d3 := qw_cell e3
            have n0 := qw_some w8
            have HCw : Hid (∀ n : QW w8, Calls Tryz.prog 85 #[.agg #[.int .i64 (b : Int), .slice (some ⟨H, 0, none⟩) N N], .int .u32 (s : Int)] n.x fun e w' => e = .returned (.int .i64 (k : Int)) ∧ Q n.x w') := fun n => HCx.out n.x
            have HSh : Hid (∀ x, Calls Tryz.prog 84 #[.int .i64 (pm : Int), .int .i64 ((numL S).length : Int)] x fun e w' => e = .returned (.int .u32 (v : Int)) ∧ w' = x) := HSh0
            clear HCx HSh0 c2 t0r t1r hGc
            go_wp2_with fail
            refine wp_lastR 13 rfl _ rfl (by kernel_rfl) (by kernel_rfl) (by kernel_rfl) ?_
            simp only [List.take_succ_cons, List.take_zero]
            repeat (first | go_big_quiet_step (first | (go_at_call 85; exact calls_qw (HCw.out _)) | (go_at_call 84; exact calls_qs (HSh.out _))) | quiet_step (first | (go_at_call 85; exact calls_qw (HCw.out _)) | (go_at_call 84; exact calls_qs (HSh.out _))))
            refine wpQuiet_nil ?_
            intro nn K hK
            clear d0 d1 d2 d3 n0
            have qn : Q wr nn.x := q8.trans nn.q
            have hu := qn.cell hu
            have fu : nn.x.frozen? ⟨X, i, none⟩ = false := by rw [qn.2]; exact fu
            have HXn : Hid (VR (nn.x.setCell ⟨X, i, none⟩ (.int .u32 (v : Int))) X S.length (sofar (fun i => .int .u32 ((lvlV b S (S.getD i 0) : Nat) : Int)) (.int .u32 0) (i + 1)) ∧ Q w6 (nn.x.setCell ⟨X, i, none⟩ (.int .u32 (v : Int))) ∧ (nn.x.setCell ⟨X, i, none⟩ (.int .u32 (v : Int))).cell? ⟨Y, 0, none⟩ = some (.int .i64 pw) ∧ (nn.x.setCell ⟨X, i, none⟩ (.int .u32 (v : Int))).cell? ⟨Y, 1, none⟩ = some (.int .i64 ph) ∧ (nn.x.setCell ⟨X, i, none⟩ (.int .u32 (v : Int))).cell? ⟨Y, 2, none⟩ = some (.slice (some ⟨X, 0, none⟩) S.length S.length)) := by
              have hF : (sofar (fun i => .int .u32 ((lvlV b S (S.getD i 0) : Nat) : Int)) (.int .u32 0) (i + 1)) i = Value.int .u32 (v : Int) := by
                have h0 := HNz.out.1.cell i hlt
                rw [World.cell?_setCell_same _ _ _ hu0] at h0
                injection h0 with h0
                exact h0.symm
              refine ⟨(HX.out.1.next qn).put hlt hF (sofar_step (n := S.length)).1, (HX.out.2.1.trans qn).set HXY.out.2 _, ?_, ?_, ?_⟩
              · rw [World.cell?_setCell_other _ _ _ _ (fun e => by injection e with e; exact HXY.out.1 (by omega))]; exact qn.cell HX.out.2.2.1
              · rw [World.cell?_setCell_other _ _ _ _ (fun e => by injection e with e; exact HXY.out.1 (by omega))]; exact qn.cell HX.out.2.2.2.1
              · rw [World.cell?_setCell_other _ _ _ _ (fun e => by injection e with e; exact HXY.out.1 (by omega))]; exact qn.cell HX.out.2.2.2.2
            clear HNz HX qn q8 HCw HSh e0 e1 e2 e3
            go_wp2_with fail
            go_roundg (S.length - (i + 1))
            case measure => go_light; omega
            case rel => go_light; exact ⟨i + 1, by go_num, by omega, HXn⟩
          · have HNy : Hid _ := HNx.out s (by unfold lvlV; rw [hk]; rfl)
            clear HNx HMem
            go_wp2_with fail
            refine (isnan_any s hx _).mono ?_
            rintro e w8 ⟨rfl, q8⟩
            rw [hk]
            have hu := q8.cell hu
            have fu : w8.frozen? ⟨X, i, none⟩ = false := by rw [q8.2]; exact fu
            have e0 := q8.cell c2
            have HXn : Hid (VR (w8.setCell ⟨X, i, none⟩ (.int .u32 (s : Int))) X S.length (sofar (fun i => .int .u32 ((lvlV b S (S.getD i 0) : Nat) : Int)) (.int .u32 0) (i + 1)) ∧ Q w6 (w8.setCell ⟨X, i, none⟩ (.int .u32 (s : Int))) ∧ (w8.setCell ⟨X, i, none⟩ (.int .u32 (s : Int))).cell? ⟨Y, 0, none⟩ = some (.int .i64 pw) ∧ (w8.setCell ⟨X, i, none⟩ (.int .u32 (s : Int))).cell? ⟨Y, 1, none⟩ = some (.int .i64 ph) ∧ (w8.setCell ⟨X, i, none⟩ (.int .u32 (s : Int))).cell? ⟨Y, 2, none⟩ = some (.slice (some ⟨X, 0, none⟩) S.length S.length)) := by
              have hF : (sofar (fun i => .int .u32 ((lvlV b S (S.getD i 0) : Nat) : Int)) (.int .u32 0) (i + 1)) i = Value.int .u32 (s : Int) := by
                have h0 := HNy.out.1.cell i hlt
                rw [World.cell?_setCell_same _ _ _ hu0] at h0
                injection h0 with h0
                exact h0.symm
              refine ⟨(HX.out.1.next q8).put hlt hF (sofar_step (n := S.length)).1, (HX.out.2.1.trans q8).set HXY.out.2 _, ?_, ?_, ?_⟩
              · rw [World.cell?_setCell_other _ _ _ _ (fun e => by injection e with e; exact HXY.out.1 (by omega))]; exact q8.cell HX.out.2.2.1
              · rw [World.cell?_setCell_other _ _ _ _ (fun e => by injection e with e; exact HXY.out.1 (by omega))]; exact q8.cell HX.out.2.2.2.1
              · rw [World.cell?_setCell_other _ _ _ _ (fun e => by injection e with e; exact HXY.out.1 (by omega))]; exact q8.cell HX.out.2.2.2.2
            clear HNy HX q8 c2
            go_wp2_with fail
            go_roundg (S.length - (i + 1))
            case measure => go_light; omega
            case rel => go_light; exact ⟨i + 1, by go_num, by omega, HXn⟩
        · obtain rfl : i = S.length := by omega
          have hge : ¬ (S.length : Int) < (S.length : Int) := by omega
          have c0 := HX.out.2.2.1
          have c1 := HX.out.2.2.2.1
          have c2 := HX.out.2.2.2.2
          have r0 := HX.out.2.1.cell r0
          have r1 := HX.out.2.1.cell r1
          have r2 := HX.out.2.1.cell r2
          have rf : ∀ j, wr.frozen? ⟨A + 1, j, none⟩ = false := fun j => by rw [HX.out.2.1.2]; exact HRF.out j
          go_wp2_with fail
          refine bodyPost_ret (v := .agg #[.int .i64 pw, .int .i64 ph, .slice (some ⟨X, 0, none⟩) S.length S.length]) (by simp [results, Tryz.results60, go_sem, r0, r1, r2]) rfl ⟨X, rfl, ?_, by have := HXA.out.2; omega, ?_⟩
          · exact ((HX.out.1.full.other (p := ⟨A + 1, 0, none⟩) (fun e => HXA.out.1 e.symm) _).other (p := ⟨A + 1, 1, none⟩) (fun e => HXA.out.1 e.symm) _).other (p := ⟨A + 1, 2, none⟩) (fun e => HXA.out.1 e.symm) _
          · exact (((HQ6.out.trans HX.out.2.1).set HLA.out _).set HLA.out _).set HLA.out _
    · refine does_value (v := .int .i64 (S.length : Int)) (x' := x) (by simp [execOp, resolve, invoke, builtin, go_sem, Act.eval, Act.put]) ⟨fun _ => hx, ?_⟩
      refine tree_or 9 7 (by kernel_rfl) rfl rfl ?_ ?_
      · have q9 : Q w6 (x.alloc (.cells #[.int .i64 0, .int .i64 0, .slice none 0 0] 26)) := hx.trans ((Q.refl x).cells _ _)
        refine does_value (v := .pointer (some ⟨x.heap.size, 0, none⟩)) (x' := x.alloc (.cells #[.int .i64 0, .int .i64 0, .slice none 0 0] 26)) (by simp [execOp, go_sem, Act.eval, Act.put]) ⟨fun _ => q9, ?_⟩
        obtain ⟨Y, hY⟩ : ∃ Y, x.heap.size = Y := ⟨_, rfl⟩
        have y0 : (x.alloc (.cells #[.int .i64 0, .int .i64 0, .slice none 0 0] 26)).cell? ⟨x.heap.size, 0, none⟩ = some (.int .i64 0) := by simp [go_sem]
        have y1 : (x.alloc (.cells #[.int .i64 0, .int .i64 0, .slice none 0 0] 26)).cell? ⟨x.heap.size, 1, none⟩ = some (.int .i64 0) := by simp [go_sem]
        have y2 : (x.alloc (.cells #[.int .i64 0, .int .i64 0, .slice none 0 0] 26)).cell? ⟨x.heap.size, 2, none⟩ = some (.slice none 0 0) := by simp [go_sem]
        have yf : ∀ j, (x.alloc (.cells #[.int .i64 0, .int .i64 0, .slice none 0 0] 26)).frozen? ⟨x.heap.size, j, none⟩ = false := fun j => by simp [go_sem]
        have sz9 : (x.alloc (.cells #[.int .i64 0, .int .i64 0, .slice none 0 0] 26)).heap.size = x.heap.size + 1 := by simp [go_sem]
        generalize x.alloc (.cells #[.int .i64 0, .int .i64 0, .slice none 0 0] 26) = xb at *
        rw [hY] at y0 y1 y2 yf sz9 ⊢
        have hm7 := hM xb
        have q7 : Q w6 (xb.alloc (.cells M 43)) := q9.trans ((Q.refl xb).cells _ _)
        refine treeS_run 7 (by kernel_rfl) rfl (v := .slice (some ⟨xb.heap.size, 0, none⟩) S.length S.length) (x' := xb.alloc (.cells M 43)) (srun_make (n := S.length) (by kernel_rfl) hm7) q7 ?_
        have vX := hV xb
        obtain ⟨X, hX⟩ : ∃ X, xb.heap.size = X := ⟨_, rfl⟩
        have sz7 : (xb.alloc (.cells M 43)).heap.size = xb.heap.size + 1 := by simp [go_sem]
        have y0 := ((Q.refl xb).cells M 43).cell y0
        have y1 := ((Q.refl xb).cells M 43).cell y1
        have y2 := ((Q.refl xb).cells M 43).cell y2
        have yf : ∀ j, (xb.alloc (.cells M 43)).frozen? ⟨Y, j, none⟩ = false := fun j => by rw [((Q.refl xb).cells M 43).2]; exact yf j
        generalize xb.alloc (.cells M 43) = xa at *
        rw [hX] at vX sz7 ⊢
        refine treeS_run 8 (by kernel_rfl) rfl (v := .agg #[.int .i64 pw, .int .i64 ph, .slice (some ⟨X, 0, none⟩) S.length S.length]) (x' := xa) (by simp [execOp, go_sem, Act.eval, Act.put]) q7 ?_
        have hXY : X ≠ Y ∧ w6.heap.size ≤ X ∧ w6.heap.size ≤ Y := by have := hx.1.size; omega
        have qz : Q w6 (((xa.setCell ⟨Y, 0, none⟩ (.int .i64 pw)).setCell ⟨Y, 1, none⟩ (.int .i64 ph)).setCell ⟨Y, 2, none⟩ (.slice (some ⟨X, 0, none⟩) S.length S.length)) := ((q7.set hXY.2.2 _).set hXY.2.2 _).set hXY.2.2 _
        refine treeS_skip 10 (by kernel_rfl) rfl (x' := ((xa.setCell ⟨Y, 0, none⟩ (.int .i64 pw)).setCell ⟨Y, 1, none⟩ (.int .i64 ph)).setCell ⟨Y, 2, none⟩ (.slice (some ⟨X, 0, none⟩) S.length S.length)) (by simp [execOp, go_sem, Act.eval, Act.put, y0, y1, y2, yf]) qz ?_
        refine tree_nil ?_
        simp only [Act.put, List.setIfInBounds_toArray, List.set_cons_succ, List.set_cons_zero]
        have HW : Hid ((((xa.setCell ⟨Y, 0, none⟩ (.int .i64 pw)).setCell ⟨Y, 1, none⟩ (.int .i64 ph)).setCell ⟨Y, 2, none⟩ (.slice (some ⟨X, 0, none⟩) S.length S.length)).cell? ⟨Y, 0, none⟩ = some (.int .i64 pw) ∧ (((xa.setCell ⟨Y, 0, none⟩ (.int .i64 pw)).setCell ⟨Y, 1, none⟩ (.int .i64 ph)).setCell ⟨Y, 2, none⟩ (.slice (some ⟨X, 0, none⟩) S.length S.length)).cell? ⟨Y, 1, none⟩ = some (.int .i64 ph) ∧ (((xa.setCell ⟨Y, 0, none⟩ (.int .i64 pw)).setCell ⟨Y, 1, none⟩ (.int .i64 ph)).setCell ⟨Y, 2, none⟩ (.slice (some ⟨X, 0, none⟩) S.length S.length)).cell? ⟨Y, 2, none⟩ = some (.slice (some ⟨X, 0, none⟩) S.length S.length) ∧ VR (((xa.setCell ⟨Y, 0, none⟩ (.int .i64 pw)).setCell ⟨Y, 1, none⟩ (.int .i64 ph)).setCell ⟨Y, 2, none⟩ (.slice (some ⟨X, 0, none⟩) S.length S.length)) X S.length (fun _ => .int .u32 0) ∧ Q w6 (((xa.setCell ⟨Y, 0, none⟩ (.int .i64 pw)).setCell ⟨Y, 1, none⟩ (.int .i64 ph)).setCell ⟨Y, 2, none⟩ (.slice (some ⟨X, 0, none⟩) S.length S.length))) := ⟨by simp [go_sem, y0, y1, y2], by simp [go_sem, y0, y1, y2], by simp [go_sem, y0, y1, y2], ((vX.other (p := ⟨Y, 0, none⟩) (fun e => hXY.1 e.symm) _).other (p := ⟨Y, 1, none⟩) (fun e => hXY.1 e.symm) _).other (p := ⟨Y, 2, none⟩) (fun e => hXY.1 e.symm) _, qz⟩
        generalize (((xa.setCell ⟨Y, 0, none⟩ (.int .i64 pw)).setCell ⟨Y, 1, none⟩ (.int .i64 ph)).setCell ⟨Y, 2, none⟩ (.slice (some ⟨X, 0, none⟩) S.length S.length)) = z at HW ⊢
        have HXY : Hid (X ≠ Y ∧ w6.heap.size ≤ X) := ⟨hXY.1, hXY.2.1⟩
        have HXA : Hid (X ≠ A + 1 ∧ w.heap.size ≤ X) := by have := HL6.out; show _ ∧ _; omega
        clear hXY qz hx y0 y1 y2 yf sz9 sz7 vX hX hY q7 q9 hm7 hM hV
        have hy0 := HW.out.1
        have hy1 := HW.out.2.1
        have hy2 := HW.out.2.2.1
        have HV0 : Hid (VR z X S.length (sofar (fun i => .int .u32 ((lvlV b S (S.getD i 0) : Nat) : Int)) (.int .u32 0) 0) ∧ Q w6 z ∧ z.cell? ⟨Y, 0, none⟩ = some (.int .i64 pw) ∧ z.cell? ⟨Y, 1, none⟩ = some (.int .i64 ph) ∧ z.cell? ⟨Y, 2, none⟩ = some (.slice (some ⟨X, 0, none⟩) S.length S.length)) := ⟨by rw [sofar_zero]; exact HW.out.2.2.2.1, HW.out.2.2.2.2, hy0, hy1, hy2⟩
        have hz2 := (HW.out.2.2.2.2).cell x2
        clear HW
        go_wp2_with fail
        clear hy0 hy1 hy2 hz2
        go_loopg [33] S.length (fun m s33 wr => ∃ i : Nat, s33 = .int .i64 (i : Int) ∧ i + m = S.length ∧ Hid (VR wr X S.length (sofar (fun i => .int .u32 ((lvlV b S (S.getD i 0) : Nat) : Int)) (.int .u32 0) i) ∧ Q w6 wr ∧ wr.cell? ⟨Y, 0, none⟩ = some (.int .i64 pw) ∧ wr.cell? ⟨Y, 1, none⟩ = some (.int .i64 ph) ∧ wr.cell? ⟨Y, 2, none⟩ = some (.slice (some ⟨X, 0, none⟩) S.length S.length)))
        case atStart => exact ⟨0, rfl, by omega, HV0⟩
        case round =>
          clear HV0
          obtain ⟨i, rfl, hi, HX⟩ := hrel
          by_cases hlt : i < S.length
          · have hc := HX.out.2.1.cell (HQ6.out.cell (HI.out i hlt))
            have hx := HB.out i
            have hki : (i : Int) < (S.length : Int) := by omega
            obtain ⟨u, hu⟩ : ∃ u, wr.cell? ⟨X, i, none⟩ = some u := ⟨_, HX.out.1.cell i hlt⟩
            have hu0 := hu
            have fu := HX.out.1.free i
            have c2 := HX.out.2.2.2.2
            have HNx : Hid (∀ v, v = lvlV b S (S.getD i 0) → VR (wr.setCell ⟨X, i, none⟩ (.int .u32 (v : Int))) X S.length (sofar (fun i => .int .u32 ((lvlV b S (S.getD i 0) : Nat) : Int)) (.int .u32 0) (i + 1)) ∧ Q w6 (wr.setCell ⟨X, i, none⟩ (.int .u32 (v : Int))) ∧ (wr.setCell ⟨X, i, none⟩ (.int .u32 (v : Int))).cell? ⟨Y, 0, none⟩ = some (.int .i64 pw) ∧ (wr.setCell ⟨X, i, none⟩ (.int .u32 (v : Int))).cell? ⟨Y, 1, none⟩ = some (.int .i64 ph) ∧ (wr.setCell ⟨X, i, none⟩ (.int .u32 (v : Int))).cell? ⟨Y, 2, none⟩ = some (.slice (some ⟨X, 0, none⟩) S.length S.length)) := fun v hv => by
              have hne : ∀ j : Nat, (⟨Y, j, none⟩ : Addr) ≠ ⟨X, i, none⟩ := fun j e => by injection e with e; exact HXY.out.1 e.symm
              refine ⟨HX.out.1.fill hlt (by rw [hv]), HX.out.2.1.set HXY.out.2 _, ?_, ?_, ?_⟩
              · rw [World.cell?_setCell_other _ _ _ _ (fun e => by injection e with e; exact HXY.out.1 (by omega))]; exact HX.out.2.2.1
              · rw [World.cell?_setCell_other _ _ _ _ (fun e => by injection e with e; exact HXY.out.1 (by omega))]; exact HX.out.2.2.2.1
              · rw [World.cell?_setCell_other _ _ _ _ (fun e => by injection e with e; exact HXY.out.1 (by omega))]; exact HX.out.2.2.2.2
            obtain ⟨s, hs⟩ : ∃ s, S.getD i 0 = s := ⟨_, rfl⟩
            have HMem : Hid (s ∈ S) := by
              show s ∈ S
              rw [← hs, List.getD_eq_getElem?_getD, List.getElem?_eq_getElem hlt]
              exact List.getElem_mem hlt
            rw [hs] at hc hx HNx
            cases hk : nanN s
            · have HNu : Hid (1 ≤ (numL S).length ∧ lvlV b S s = shN (preN (clsC b (numL S)) (clsN b s)) (numL S).length) := by
                refine ⟨?_, ?_⟩
                · have : s ∈ numL S := by unfold numL; rw [List.mem_filter]; exact ⟨HMem.out, by rw [hk]; rfl⟩
                  exact List.length_pos_of_mem this
                · unfold lvlV; rw [hk]; rfl
              have hcl : clsN b s < 2 ^ b := cls_lt h2 hx
              have hGc := HG.out wr HX.out.2.1 _ hcl
              have HCx : Hid (∀ x, Calls Tryz.prog 85 #[.agg #[.int .i64 (b : Int), .slice (some ⟨H, 0, none⟩) (2 ^ b) (2 ^ b)], .int .u32 (s : Int)] x fun e w' => e = .returned (.int .i64 (clsN b s : Nat)) ∧ Q x w') := fun x => scls_any b s h1 h2 hx H (2 ^ b) (2 ^ b) x
              have HSh0 : Hid (∀ x, Calls Tryz.prog 84 #[.int .i64 ((preN (clsC b (numL S)) (clsN b s) : Nat) : Int), .int .i64 ((numL S).length : Int)] x fun e w' => e = .returned (.int .u32 (shN (preN (clsC b (numL S)) (clsN b s)) (numL S).length : Nat)) ∧ w' = x) := fun x => sshr_any _ _ HNu.out.1 (by omega) (preN_le b (numL S) _) x
              have t0r := HX.out.2.1.cell t0
              have t1r := HX.out.2.1.cell t1
              have HNy := HNx.out _ HNu.out.2.symm
              clear HNx HNu HMem
              generalize shN (preN (clsC b (numL S)) (clsN b s)) (numL S).length = v at *
              generalize preN (clsC b (numL S)) (clsN b s) = pm at *
              generalize clsN b s = k at *
              have HNz : Hid _ := HNy
              clear HNy hs
              have hkk : (k : Int) < ((2 ^ b : Nat) : Int) := by omega
              generalize 2 ^ b = N at *
              go_wp2_with fail
              refine (isnan_any s hx _).mono ?_
              rintro e w8 ⟨rfl, q8⟩
              rw [hk]
              have e0 := q8.cell c2
              have e1 := q8.cell t0r
              have e2 := q8.cell t1r
              have e3 := q8.cell hGc
              have d0 := qw_cell e0
              have d1 := qw_cell e1
              have d2 := qw_cell e2
              have d3 := qw_cell e3
              have n0 := qw_some w8
              have HCw : Hid (∀ n : QW w8, Calls Tryz.prog 85 #[.agg #[.int .i64 (b : Int), .slice (some ⟨H, 0, none⟩) N N], .int .u32 (s : Int)] n.x fun e w' => e = .returned (.int .i64 (k : Int)) ∧ Q n.x w') := fun n => HCx.out n.x
              have HSh : Hid (∀ x, Calls Tryz.prog 84 #[.int .i64 (pm : Int), .int .i64 ((numL S).length : Int)] x fun e w' => e = .returned (.int .u32 (v : Int)) ∧ w' = x) := HSh0
              clear HCx HSh0 c2 t0r t1r hGc
              go_wp2_with fail
              refine wp_lastR 13 rfl _ rfl (by kernel_rfl) (by kernel_rfl) (by kernel_rfl) ?_
              simp only [List.take_succ_cons, List.take_zero]
              repeat (first | go_big_quiet_step (first | (go_at_call 85; exact calls_qw (HCw.out _)) | (go_at_call 84; exact calls_qs (HSh.out _))) | quiet_step (first | (go_at_call 85; exact calls_qw (HCw.out _)) | (go_at_call 84; exact calls_qs (HSh.out _))))
              refine wpQuiet_nil ?_
              intro nn K hK
              clear d0 d1 d2 d3 n0
              have qn : Q wr nn.x := q8.trans nn.q
              have hu := qn.cell hu
              have fu : nn.x.frozen? ⟨X, i, none⟩ = false := by rw [qn.2]; exact fu
              have HXn : Hid (VR (nn.x.setCell ⟨X, i, none⟩ (.int .u32 (v : Int))) X S.length (sofar (fun i => .int .u32 ((lvlV b S (S.getD i 0) : Nat) : Int)) (.int .u32 0) (i + 1)) ∧ Q w6 (nn.x.setCell ⟨X, i, none⟩ (.int .u32 (v : Int))) ∧ (nn.x.setCell ⟨X, i, none⟩ (.int .u32 (v : Int))).cell? ⟨Y, 0, none⟩ = some (.int .i64 pw) ∧ (nn.x.setCell ⟨X, i, none⟩ (.int .u32 (v : Int))).cell? ⟨Y, 1, none⟩ = some (.int .i64 ph) ∧ (nn.x.setCell ⟨X, i, none⟩ (.int .u32 (v : Int))).cell? ⟨Y, 2, none⟩ = some (.slice (some ⟨X, 0, none⟩) S.length S.length)) := by
                have hF : (sofar (fun i => .int .u32 ((lvlV b S (S.getD i 0) : Nat) : Int)) (.int .u32 0) (i + 1)) i = Value.int .u32 (v : Int) := by
                  have h0 := HNz.out.1.cell i hlt
                  rw [World.cell?_setCell_same _ _ _ hu0] at h0
                  injection h0 with h0
                  exact h0.symm
                refine ⟨(HX.out.1.next qn).put hlt hF (sofar_step (n := S.length)).1, (HX.out.2.1.trans qn).set HXY.out.2 _, ?_, ?_, ?_⟩
                · rw [World.cell?_setCell_other _ _ _ _ (fun e => by injection e with e; exact HXY.out.1 (by omega))]; exact qn.cell HX.out.2.2.1
                · rw [World.cell?_setCell_other _ _ _ _ (fun e => by injection e with e; exact HXY.out.1 (by omega))]; exact qn.cell HX.out.2.2.2.1
                · rw [World.cell?_setCell_other _ _ _ _ (fun e => by injection e with e; exact HXY.out.1 (by omega))]; exact qn.cell HX.out.2.2.2.2
              clear HNz HX qn q8 HCw HSh e0 e1 e2 e3
              go_wp2_with fail
              go_roundg (S.length - (i + 1))
              case measure => go_light; omega
              case rel => go_light; exact ⟨i + 1, by go_num, by omega, HXn⟩
            · have HNy : Hid _ := HNx.out s (by unfold lvlV; rw [hk]; rfl)
              clear HNx HMem
              go_wp2_with fail
              refine (isnan_any s hx _).mono ?_
              rintro e w8 ⟨rfl, q8⟩
              rw [hk]
              have hu := q8.cell hu
              have fu : w8.frozen? ⟨X, i, none⟩ = false := by rw [q8.2]; exact fu
              have e0 := q8.cell c2
              have HXn : Hid (VR (w8.setCell ⟨X, i, none⟩ (.int .u32 (s : Int))) X S.length (sofar (fun i => .int .u32 ((lvlV b S (S.getD i 0) : Nat) : Int)) (.int .u32 0) (i + 1)) ∧ Q w6 (w8.setCell ⟨X, i, none⟩ (.int .u32 (s : Int))) ∧ (w8.setCell ⟨X, i, none⟩ (.int .u32 (s : Int))).cell? ⟨Y, 0, none⟩ = some (.int .i64 pw) ∧ (w8.setCell ⟨X, i, none⟩ (.int .u32 (s : Int))).cell? ⟨Y, 1, none⟩ = some (.int .i64 ph) ∧ (w8.setCell ⟨X, i, none⟩ (.int .u32 (s : Int))).cell? ⟨Y, 2, none⟩ = some (.slice (some ⟨X, 0, none⟩) S.length S.length)) := by
                have hF : (sofar (fun i => .int .u32 ((lvlV b S (S.getD i 0) : Nat) : Int)) (.int .u32 0) (i + 1)) i = Value.int .u32 (s : Int) := by
                  have h0 := HNy.out.1.cell i hlt
                  rw [World.cell?_setCell_same _ _ _ hu0] at h0
                  injection h0 with h0
                  exact h0.symm
                refine ⟨(HX.out.1.next q8).put hlt hF (sofar_step (n := S.length)).1, (HX.out.2.1.trans q8).set HXY.out.2 _, ?_, ?_, ?_⟩
                · rw [World.cell?_setCell_other _ _ _ _ (fun e => by injection e with e; exact HXY.out.1 (by omega))]; exact q8.cell HX.out.2.2.1
                · rw [World.cell?_setCell_other _ _ _ _ (fun e => by injection e with e; exact HXY.out.1 (by omega))]; exact q8.cell HX.out.2.2.2.1
                · rw [World.cell?_setCell_other _ _ _ _ (fun e => by injection e with e; exact HXY.out.1 (by omega))]; exact q8.cell HX.out.2.2.2.2
              clear HNy HX q8 c2
              go_wp2_with fail
              go_roundg (S.length - (i + 1))
              case measure => go_light; omega
              case rel => go_light; exact ⟨i + 1, by go_num, by omega, HXn⟩
          · obtain rfl : i = S.length := by omega
            have hge : ¬ (S.length : Int) < (S.length : Int) := by omega
            have c0 := HX.out.2.2.1
            have c1 := HX.out.2.2.2.1
            have c2 := HX.out.2.2.2.2
            have r0 := HX.out.2.1.cell r0
            have r1 := HX.out.2.1.cell r1
            have r2 := HX.out.2.1.cell r2
            have rf : ∀ j, wr.frozen? ⟨A + 1, j, none⟩ = false := fun j => by rw [HX.out.2.1.2]; exact HRF.out j
            go_wp2_with fail
            refine bodyPost_ret (v := .agg #[.int .i64 pw, .int .i64 ph, .slice (some ⟨X, 0, none⟩) S.length S.length]) (by simp [results, Tryz.results60, go_sem, r0, r1, r2]) rfl ⟨X, rfl, ?_, by have := HXA.out.2; omega, ?_⟩
            · exact ((HX.out.1.full.other (p := ⟨A + 1, 0, none⟩) (fun e => HXA.out.1 e.symm) _).other (p := ⟨A + 1, 1, none⟩) (fun e => HXA.out.1 e.symm) _).other (p := ⟨A + 1, 2, none⟩) (fun e => HXA.out.1 e.symm) _
            · exact (((HQ6.out.trans HX.out.2.1).set HLA.out _).set HLA.out _).set HLA.out _
      · have hm7 := hM x
        have q7 : Q w6 (x.alloc (.cells M 43)) := hx.trans ((Q.refl x).cells _ _)
        refine does_value (v := .slice (some ⟨x.heap.size, 0, none⟩) S.length S.length) (x' := x.alloc (.cells M 43)) (srun_make (n := S.length) (by kernel_rfl) hm7) ⟨fun _ => q7, ?_⟩
        have vX := hV x
        obtain ⟨X, hX⟩ : ∃ X, x.heap.size = X := ⟨_, rfl⟩
        have sz7 : (x.alloc (.cells M 43)).heap.size = x.heap.size + 1 := by simp [go_sem]
        generalize x.alloc (.cells M 43) = xa at *
        rw [hX] at vX sz7 ⊢
        refine tree_or 9 8 (by kernel_rfl) rfl rfl ?_ ?_
        · have q9 : Q w6 (xa.alloc (.cells #[.int .i64 0, .int .i64 0, .slice none 0 0] 26)) := q7.trans ((Q.refl xa).cells _ _)
          refine does_value (v := .pointer (some ⟨xa.heap.size, 0, none⟩)) (x' := xa.alloc (.cells #[.int .i64 0, .int .i64 0, .slice none 0 0] 26)) (by simp [execOp, go_sem, Act.eval, Act.put]) ⟨fun _ => q9, ?_⟩
          obtain ⟨Y, hY⟩ : ∃ Y, xa.heap.size = Y := ⟨_, rfl⟩
          have y0 : (xa.alloc (.cells #[.int .i64 0, .int .i64 0, .slice none 0 0] 26)).cell? ⟨xa.heap.size, 0, none⟩ = some (.int .i64 0) := by simp [go_sem]
          have y1 : (xa.alloc (.cells #[.int .i64 0, .int .i64 0, .slice none 0 0] 26)).cell? ⟨xa.heap.size, 1, none⟩ = some (.int .i64 0) := by simp [go_sem]
          have y2 : (xa.alloc (.cells #[.int .i64 0, .int .i64 0, .slice none 0 0] 26)).cell? ⟨xa.heap.size, 2, none⟩ = some (.slice none 0 0) := by simp [go_sem]
          have yf : ∀ j, (xa.alloc (.cells #[.int .i64 0, .int .i64 0, .slice none 0 0] 26)).frozen? ⟨xa.heap.size, j, none⟩ = false := fun j => by simp [go_sem]
          have sz9 : (xa.alloc (.cells #[.int .i64 0, .int .i64 0, .slice none 0 0] 26)).heap.size = xa.heap.size + 1 := by simp [go_sem]
          have vX := vX.next ((Q.refl xa).cells #[.int .i64 0, .int .i64 0, .slice none 0 0] 26)
          generalize xa.alloc (.cells #[.int .i64 0, .int .i64 0, .slice none 0 0] 26) = xb at *
          rw [hY] at y0 y1 y2 yf sz9 ⊢
          refine treeS_run 8 (by kernel_rfl) rfl (v := .agg #[.int .i64 pw, .int .i64 ph, .slice (some ⟨X, 0, none⟩) S.length S.length]) (x' := xb) (by simp [execOp, go_sem, Act.eval, Act.put]) q9 ?_
          have hXY : X ≠ Y ∧ w6.heap.size ≤ X ∧ w6.heap.size ≤ Y := by have := hx.1.size; omega
          have qz : Q w6 (((xb.setCell ⟨Y, 0, none⟩ (.int .i64 pw)).setCell ⟨Y, 1, none⟩ (.int .i64 ph)).setCell ⟨Y, 2, none⟩ (.slice (some ⟨X, 0, none⟩) S.length S.length)) := ((q9.set hXY.2.2 _).set hXY.2.2 _).set hXY.2.2 _
          refine treeS_skip 10 (by kernel_rfl) rfl (x' := ((xb.setCell ⟨Y, 0, none⟩ (.int .i64 pw)).setCell ⟨Y, 1, none⟩ (.int .i64 ph)).setCell ⟨Y, 2, none⟩ (.slice (some ⟨X, 0, none⟩) S.length S.length)) (by simp [execOp, go_sem, Act.eval, Act.put, y0, y1, y2, yf]) qz ?_
          refine tree_nil ?_
          simp only [Act.put, List.setIfInBounds_toArray, List.set_cons_succ, List.set_cons_zero]
          have HW : Hid ((((xb.setCell ⟨Y, 0, none⟩ (.int .i64 pw)).setCell ⟨Y, 1, none⟩ (.int .i64 ph)).setCell ⟨Y, 2, none⟩ (.slice (some ⟨X, 0, none⟩) S.length S.length)).cell? ⟨Y, 0, none⟩ = some (.int .i64 pw) ∧ (((xb.setCell ⟨Y, 0, none⟩ (.int .i64 pw)).setCell ⟨Y, 1, none⟩ (.int .i64 ph)).setCell ⟨Y, 2, none⟩ (.slice (some ⟨X, 0, none⟩) S.length S.length)).cell? ⟨Y, 1, none⟩ = some (.int .i64 ph) ∧ (((xb.setCell ⟨Y, 0, none⟩ (.int .i64 pw)).setCell ⟨Y, 1, none⟩ (.int .i64 ph)).setCell ⟨Y, 2, none⟩ (.slice (some ⟨X, 0, none⟩) S.length S.length)).cell? ⟨Y, 2, none⟩ = some (.slice (some ⟨X, 0, none⟩) S.length S.length) ∧ VR (((xb.setCell ⟨Y, 0, none⟩ (.int .i64 pw)).setCell ⟨Y, 1, none⟩ (.int .i64 ph)).setCell ⟨Y, 2, none⟩ (.slice (some ⟨X, 0, none⟩) S.length S.length)) X S.length (fun _ => .int .u32 0) ∧ Q w6 (((xb.setCell ⟨Y, 0, none⟩ (.int .i64 pw)).setCell ⟨Y, 1, none⟩ (.int .i64 ph)).setCell ⟨Y, 2, none⟩ (.slice (some ⟨X, 0, none⟩) S.length S.length))) := ⟨by simp [go_sem, y0, y1, y2], by simp [go_sem, y0, y1, y2], by simp [go_sem, y0, y1, y2], ((vX.other (p := ⟨Y, 0, none⟩) (fun e => hXY.1 e.symm) _).other (p := ⟨Y, 1, none⟩) (fun e => hXY.1 e.symm) _).other (p := ⟨Y, 2, none⟩) (fun e => hXY.1 e.symm) _, qz⟩
          generalize (((xb.setCell ⟨Y, 0, none⟩ (.int .i64 pw)).setCell ⟨Y, 1, none⟩ (.int .i64 ph)).setCell ⟨Y, 2, none⟩ (.slice (some ⟨X, 0, none⟩) S.length S.length)) = z at HW ⊢
          have HXY : Hid (X ≠ Y ∧ w6.heap.size ≤ X) := ⟨hXY.1, hXY.2.1⟩
          have HXA : Hid (X ≠ A + 1 ∧ w.heap.size ≤ X) := by have := HL6.out; show _ ∧ _; omega
          clear hXY qz hx y0 y1 y2 yf sz9 sz7 vX hX hY q7 q9 hm7 hM hV
          have hy0 := HW.out.1
          have hy1 := HW.out.2.1
          have hy2 := HW.out.2.2.1
          have HV0 : Hid (VR z X S.length (sofar (fun i => .int .u32 ((lvlV b S (S.getD i 0) : Nat) : Int)) (.int .u32 0) 0) ∧ Q w6 z ∧ z.cell? ⟨Y, 0, none⟩ = some (.int .i64 pw) ∧ z.cell? ⟨Y, 1, none⟩ = some (.int .i64 ph) ∧ z.cell? ⟨Y, 2, none⟩ = some (.slice (some ⟨X, 0, none⟩) S.length S.length)) := ⟨by rw [sofar_zero]; exact HW.out.2.2.2.1, HW.out.2.2.2.2, hy0, hy1, hy2⟩
          have hz2 := (HW.out.2.2.2.2).cell x2
          clear HW
          go_wp2_with fail
          clear hy0 hy1 hy2 hz2
          go_loopg [33] S.length (fun m s33 wr => ∃ i : Nat, s33 = .int .i64 (i : Int) ∧ i + m = S.length ∧ Hid (VR wr X S.length (sofar (fun i => .int .u32 ((lvlV b S (S.getD i 0) : Nat) : Int)) (.int .u32 0) i) ∧ Q w6 wr ∧ wr.cell? ⟨Y, 0, none⟩ = some (.int .i64 pw) ∧ wr.cell? ⟨Y, 1, none⟩ = some (.int .i64 ph) ∧ wr.cell? ⟨Y, 2, none⟩ = some (.slice (some ⟨X, 0, none⟩) S.length S.length)))
          case atStart => exact ⟨0, rfl, by omega, HV0⟩
          case round =>
            clear HV0
            obtain ⟨i, rfl, hi, HX⟩ := hrel
            by_cases hlt : i < S.length
            · have hc := HX.out.2.1.cell (HQ6.out.cell (HI.out i hlt))
              have hx := HB.out i
              have hki : (i : Int) < (S.length : Int) := by omega
              obtain ⟨u, hu⟩ : ∃ u, wr.cell? ⟨X, i, none⟩ = some u := ⟨_, HX.out.1.cell i hlt⟩
              have hu0 := hu
              have fu := HX.out.1.free i
              have c2 := HX.out.2.2.2.2
              have HNx : Hid (∀ v, v = lvlV b S (S.getD i 0) → VR (wr.setCell ⟨X, i, none⟩ (.int .u32 (v : Int))) X S.length (sofar (fun i => .int .u32 ((lvlV b S (S.getD i 0) : Nat) : Int)) (.int .u32 0) (i + 1)) ∧ Q w6 (wr.setCell ⟨X, i, none⟩ (.int .u32 (v : Int))) ∧ (wr.setCell ⟨X, i, none⟩ (.int .u32 (v : Int))).cell? ⟨Y, 0, none⟩ = some (.int .i64 pw) ∧ (wr.setCell ⟨X, i, none⟩ (.int .u32 (v : Int))).cell? ⟨Y, 1, none⟩ = some (.int .i64 ph) ∧ (wr.setCell ⟨X, i, none⟩ (.int .u32 (v : Int))).cell? ⟨Y, 2, none⟩ = some (.slice (some ⟨X, 0, none⟩) S.length S.length)) := fun v hv => by
                have hne : ∀ j : Nat, (⟨Y, j, none⟩ : Addr) ≠ ⟨X, i, none⟩ := fun j e => by injection e with e; exact HXY.out.1 e.symm
                refine ⟨HX.out.1.fill hlt (by rw [hv]), HX.out.2.1.set HXY.out.2 _, ?_, ?_, ?_⟩
                · rw [World.cell?_setCell_other _ _ _ _ (fun e => by injection e with e; exact HXY.out.1 (by omega))]; exact HX.out.2.2.1
                · rw [World.cell?_setCell_other _ _ _ _ (fun e => by injection e with e; exact HXY.out.1 (by omega))]; exact HX.out.2.2.2.1
                · rw [World.cell?_setCell_other _ _ _ _ (fun e => by injection e with e; exact HXY.out.1 (by omega))]; exact HX.out.2.2.2.2
              obtain ⟨s, hs⟩ : ∃ s, S.getD i 0 = s := ⟨_, rfl⟩
              have HMem : Hid (s ∈ S) := by
                show s ∈ S
                rw [← hs, List.getD_eq_getElem?_getD, List.getElem?_eq_getElem hlt]
                exact List.getElem_mem hlt
              rw [hs] at hc hx HNx
              cases hk : nanN s
              · have HNu : Hid (1 ≤ (numL S).length ∧ lvlV b S s = shN (preN (clsC b (numL S)) (clsN b s)) (numL S).length) := by
                  refine ⟨?_, ?_⟩
                  · have : s ∈ numL S := by unfold numL; rw [List.mem_filter]; exact ⟨HMem.out, by rw [hk]; rfl⟩
                    exact List.length_pos_of_mem this
                  · unfold lvlV; rw [hk]; rfl
                have hcl : clsN b s < 2 ^ b := cls_lt h2 hx
                have hGc := HG.out wr HX.out.2.1 _ hcl
                have HCx : Hid (∀ x, Calls Tryz.prog 85 #[.agg #[.int .i64 (b : Int), .slice (some ⟨H, 0, none⟩) (2 ^ b) (2 ^ b)], .int .u32 (s : Int)] x fun e w' => e = .returned (.int .i64 (clsN b s : Nat)) ∧ Q x w') := fun x => scls_any b s h1 h2 hx H (2 ^ b) (2 ^ b) x
                have HSh0 : Hid (∀ x, Calls Tryz.prog 84 #[.int .i64 ((preN (clsC b (numL S)) (clsN b s) : Nat) : Int), .int .i64 ((numL S).length : Int)] x fun e w' => e = .returned (.int .u32 (shN (preN (clsC b (numL S)) (clsN b s)) (numL S).length : Nat)) ∧ w' = x) := fun x => sshr_any _ _ HNu.out.1 (by omega) (preN_le b (numL S) _) x
                have t0r := HX.out.2.1.cell t0
                have t1r := HX.out.2.1.cell t1
                have HNy := HNx.out _ HNu.out.2.symm
                clear HNx HNu HMem
                generalize shN (preN (clsC b (numL S)) (clsN b s)) (numL S).length = v at *
                generalize preN (clsC b (numL S)) (clsN b s) = pm at *
                generalize clsN b s = k at *
                have HNz : Hid _ := HNy
                clear HNy hs
                have hkk : (k : Int) < ((2 ^ b : Nat) : Int) := by omega
                generalize 2 ^ b = N at *
                go_wp2_with fail
                refine (isnan_any s hx _).mono ?_
                rintro e w8 ⟨rfl, q8⟩
                rw [hk]
                have e0 := q8.cell c2
                have e1 := q8.cell t0r
                have e2 := q8.cell t1r
                have e3 := q8.cell hGc
                have d0 := qw_cell e0
                have d1 := qw_cell e1
                have d2 := qw_cell e2
                have d3 := qw_cell e3
                have n0 := qw_some w8
                have HCw : Hid (∀ n : QW w8, Calls Tryz.prog 85 #[.agg #[.int .i64 (b : Int), .slice (some ⟨H, 0, none⟩) N N], .int .u32 (s : Int)] n.x fun e w' => e = .returned (.int .i64 (k : Int)) ∧ Q n.x w') := fun n => HCx.out n.x
                have HSh : Hid (∀ x, Calls Tryz.prog 84 #[.int .i64 (pm : Int), .int .i64 ((numL S).length : Int)] x fun e w' => e = .returned (.int .u32 (v : Int)) ∧ w' = x) := HSh0
                clear HCx HSh0 c2 t0r t1r hGc
                go_wp2_with fail
                refine wp_lastR 13 rfl _ rfl (by kernel_rfl) (by kernel_rfl) (by kernel_rfl) ?_
                simp only [List.take_succ_cons, List.take_zero]
                repeat (first | go_big_quiet_step (first | (go_at_call 85; exact calls_qw (HCw.out _)) | (go_at_call 84; exact calls_qs (HSh.out _))) | quiet_step (first | (go_at_call 85; exact calls_qw (HCw.out _)) | (go_at_call 84; exact calls_qs (HSh.out _))))
                refine wpQuiet_nil ?_
                intro nn K hK
                clear d0 d1 d2 d3 n0
                have qn : Q wr nn.x := q8.trans nn.q
                have hu := qn.cell hu
                have fu : nn.x.frozen? ⟨X, i, none⟩ = false := by rw [qn.2]; exact fu
                have HXn : Hid (VR (nn.x.setCell ⟨X, i, none⟩ (.int .u32 (v : Int))) X S.length (sofar (fun i => .int .u32 ((lvlV b S (S.getD i 0) : Nat) : Int)) (.int .u32 0) (i + 1)) ∧ Q w6 (nn.x.setCell ⟨X, i, none⟩ (.int .u32 (v : Int))) ∧ (nn.x.setCell ⟨X, i, none⟩ (.int .u32 (v : Int))).cell? ⟨Y, 0, none⟩ = some (.int .i64 pw) ∧ (nn.x.setCell ⟨X, i, none⟩ (.int .u32 (v : Int))).cell? ⟨Y, 1, none⟩ = some (.int .i64 ph) ∧ (nn.x.setCell ⟨X, i, none⟩ (.int .u32 (v : Int))).cell? ⟨Y, 2, none⟩ = some (.slice (some ⟨X, 0, none⟩) S.length S.length)) := by
                  have hF : (sofar (fun i => .int .u32 ((lvlV b S (S.getD i 0) : Nat) : Int)) (.int .u32 0) (i + 1)) i = Value.int .u32 (v : Int) := by
                    have h0 := HNz.out.1.cell i hlt
                    rw [World.cell?_setCell_same _ _ _ hu0] at h0
                    injection h0 with h0
                    exact h0.symm
                  refine ⟨(HX.out.1.next qn).put hlt hF (sofar_step (n := S.length)).1, (HX.out.2.1.trans qn).set HXY.out.2 _, ?_, ?_, ?_⟩
                  · rw [World.cell?_setCell_other _ _ _ _ (fun e => by injection e with e; exact HXY.out.1 (by omega))]; exact qn.cell HX.out.2.2.1
                  · rw [World.cell?_setCell_other _ _ _ _ (fun e => by injection e with e; exact HXY.out.1 (by omega))]; exact qn.cell HX.out.2.2.2.1
                  · rw [World.cell?_setCell_other _ _ _ _ (fun e => by injection e with e; exact HXY.out.1 (by omega))]; exact qn.cell HX.out.2.2.2.2
                clear HNz HX qn q8 HCw HSh e0 e1 e2 e3
                go_wp2_with fail
                go_roundg (S.length - (i + 1))
                case measure => go_light; omega
                case rel => go_light; exact ⟨i + 1, by go_num, by omega, HXn⟩
              · have HNy : Hid _ := HNx.out s (by unfold lvlV; rw [hk]; rfl)
                clear HNx HMem
                go_wp2_with fail
                refine (isnan_any s hx _).mono ?_
                rintro e w8 ⟨rfl, q8⟩
                rw [hk]
                have hu := q8.cell hu
                have fu : w8.frozen? ⟨X, i, none⟩ = false := by rw [q8.2]; exact fu
                have e0 := q8.cell c2
                have HXn : Hid (VR (w8.setCell ⟨X, i, none⟩ (.int .u32 (s : Int))) X S.length (sofar (fun i => .int .u32 ((lvlV b S (S.getD i 0) : Nat) : Int)) (.int .u32 0) (i + 1)) ∧ Q w6 (w8.setCell ⟨X, i, none⟩ (.int .u32 (s : Int))) ∧ (w8.setCell ⟨X, i, none⟩ (.int .u32 (s : Int))).cell? ⟨Y, 0, none⟩ = some (.int .i64 pw) ∧ (w8.setCell ⟨X, i, none⟩ (.int .u32 (s : Int))).cell? ⟨Y, 1, none⟩ = some (.int .i64 ph) ∧ (w8.setCell ⟨X, i, none⟩ (.int .u32 (s : Int))).cell? ⟨Y, 2, none⟩ = some (.slice (some ⟨X, 0, none⟩) S.length S.length)) := by
                  have hF : (sofar (fun i => .int .u32 ((lvlV b S (S.getD i 0) : Nat) : Int)) (.int .u32 0) (i + 1)) i = Value.int .u32 (s : Int) := by
                    have h0 := HNy.out.1.cell i hlt
                    rw [World.cell?_setCell_same _ _ _ hu0] at h0
                    injection h0 with h0
                    exact h0.symm
                  refine ⟨(HX.out.1.next q8).put hlt hF (sofar_step (n := S.length)).1, (HX.out.2.1.trans q8).set HXY.out.2 _, ?_, ?_, ?_⟩
                  · rw [World.cell?_setCell_other _ _ _ _ (fun e => by injection e with e; exact HXY.out.1 (by omega))]; exact q8.cell HX.out.2.2.1
                  · rw [World.cell?_setCell_other _ _ _ _ (fun e => by injection e with e; exact HXY.out.1 (by omega))]; exact q8.cell HX.out.2.2.2.1
                  · rw [World.cell?_setCell_other _ _ _ _ (fun e => by injection e with e; exact HXY.out.1 (by omega))]; exact q8.cell HX.out.2.2.2.2
                clear HNy HX q8 c2
                go_wp2_with fail
                go_roundg (S.length - (i + 1))
                case measure => go_light; omega
                case rel => go_light; exact ⟨i + 1, by go_num, by omega, HXn⟩
            · obtain rfl : i = S.length := by omega
              have hge : ¬ (S.length : Int) < (S.length : Int) := by omega
              have c0 := HX.out.2.2.1
              have c1 := HX.out.2.2.2.1
              have c2 := HX.out.2.2.2.2
              have r0 := HX.out.2.1.cell r0
              have r1 := HX.out.2.1.cell r1
              have r2 := HX.out.2.1.cell r2
              have rf : ∀ j, wr.frozen? ⟨A + 1, j, none⟩ = false := fun j => by rw [HX.out.2.1.2]; exact HRF.out j
              go_wp2_with fail
              refine bodyPost_ret (v := .agg #[.int .i64 pw, .int .i64 ph, .slice (some ⟨X, 0, none⟩) S.length S.length]) (by simp [results, Tryz.results60, go_sem, r0, r1, r2]) rfl ⟨X, rfl, ?_, by have := HXA.out.2; omega, ?_⟩
              · exact ((HX.out.1.full.other (p := ⟨A + 1, 0, none⟩) (fun e => HXA.out.1 e.symm) _).other (p := ⟨A + 1, 1, none⟩) (fun e => HXA.out.1 e.symm) _).other (p := ⟨A + 1, 2, none⟩) (fun e => HXA.out.1 e.symm) _
              · exact (((HQ6.out.trans HX.out.2.1).set HLA.out _).set HLA.out _).set HLA.out _
        · refine does_value (v := .agg #[.int .i64 pw, .int .i64 ph, .slice (some ⟨X, 0, none⟩) S.length S.length]) (x' := xa) (by simp [execOp, go_sem, Act.eval, Act.put]) ⟨fun _ => q7, ?_⟩
          have q9 : Q w6 (xa.alloc (.cells #[.int .i64 0, .int .i64 0, .slice none 0 0] 26)) := q7.trans ((Q.refl xa).cells _ _)
          refine treeS_run 9 (by kernel_rfl) rfl (v := .pointer (some ⟨xa.heap.size, 0, none⟩)) (x' := xa.alloc (.cells #[.int .i64 0, .int .i64 0, .slice none 0 0] 26)) (by simp [execOp, go_sem, Act.eval, Act.put]) q9 ?_
          obtain ⟨Y, hY⟩ : ∃ Y, xa.heap.size = Y := ⟨_, rfl⟩
          have y0 : (xa.alloc (.cells #[.int .i64 0, .int .i64 0, .slice none 0 0] 26)).cell? ⟨xa.heap.size, 0, none⟩ = some (.int .i64 0) := by simp [go_sem]
          have y1 : (xa.alloc (.cells #[.int .i64 0, .int .i64 0, .slice none 0 0] 26)).cell? ⟨xa.heap.size, 1, none⟩ = some (.int .i64 0) := by simp [go_sem]
          have y2 : (xa.alloc (.cells #[.int .i64 0, .int .i64 0, .slice none 0 0] 26)).cell? ⟨xa.heap.size, 2, none⟩ = some (.slice none 0 0) := by simp [go_sem]
          have yf : ∀ j, (xa.alloc (.cells #[.int .i64 0, .int .i64 0, .slice none 0 0] 26)).frozen? ⟨xa.heap.size, j, none⟩ = false := fun j => by simp [go_sem]
          have sz9 : (xa.alloc (.cells #[.int .i64 0, .int .i64 0, .slice none 0 0] 26)).heap.size = xa.heap.size + 1 := by simp [go_sem]
          have vX := vX.next ((Q.refl xa).cells #[.int .i64 0, .int .i64 0, .slice none 0 0] 26)
          generalize xa.alloc (.cells #[.int .i64 0, .int .i64 0, .slice none 0 0] 26) = xb at *
          rw [hY] at y0 y1 y2 yf sz9 ⊢
          have hXY : X ≠ Y ∧ w6.heap.size ≤ X ∧ w6.heap.size ≤ Y := by have := hx.1.size; omega
          have qz : Q w6 (((xb.setCell ⟨Y, 0, none⟩ (.int .i64 pw)).setCell ⟨Y, 1, none⟩ (.int .i64 ph)).setCell ⟨Y, 2, none⟩ (.slice (some ⟨X, 0, none⟩) S.length S.length)) := ((q9.set hXY.2.2 _).set hXY.2.2 _).set hXY.2.2 _
          refine treeS_skip 10 (by kernel_rfl) rfl (x' := ((xb.setCell ⟨Y, 0, none⟩ (.int .i64 pw)).setCell ⟨Y, 1, none⟩ (.int .i64 ph)).setCell ⟨Y, 2, none⟩ (.slice (some ⟨X, 0, none⟩) S.length S.length)) (by simp [execOp, go_sem, Act.eval, Act.put, y0, y1, y2, yf]) qz ?_
          refine tree_nil ?_
          simp only [Act.put, List.setIfInBounds_toArray, List.set_cons_succ, List.set_cons_zero]
          have HW : Hid ((((xb.setCell ⟨Y, 0, none⟩ (.int .i64 pw)).setCell ⟨Y, 1, none⟩ (.int .i64 ph)).setCell ⟨Y, 2, none⟩ (.slice (some ⟨X, 0, none⟩) S.length S.length)).cell? ⟨Y, 0, none⟩ = some (.int .i64 pw) ∧ (((xb.setCell ⟨Y, 0, none⟩ (.int .i64 pw)).setCell ⟨Y, 1, none⟩ (.int .i64 ph)).setCell ⟨Y, 2, none⟩ (.slice (some ⟨X, 0, none⟩) S.length S.length)).cell? ⟨Y, 1, none⟩ = some (.int .i64 ph) ∧ (((xb.setCell ⟨Y, 0, none⟩ (.int .i64 pw)).setCell ⟨Y, 1, none⟩ (.int .i64 ph)).setCell ⟨Y, 2, none⟩ (.slice (some ⟨X, 0, none⟩) S.length S.length)).cell? ⟨Y, 2, none⟩ = some (.slice (some ⟨X, 0, none⟩) S.length S.length) ∧ VR (((xb.setCell ⟨Y, 0, none⟩ (.int .i64 pw)).setCell ⟨Y, 1, none⟩ (.int .i64 ph)).setCell ⟨Y, 2, none⟩ (.slice (some ⟨X, 0, none⟩) S.length S.length)) X S.length (fun _ => .int .u32 0) ∧ Q w6 (((xb.setCell ⟨Y, 0, none⟩ (.int .i64 pw)).setCell ⟨Y, 1, none⟩ (.int .i64 ph)).setCell ⟨Y, 2, none⟩ (.slice (some ⟨X, 0, none⟩) S.length S.length))) := ⟨by simp [go_sem, y0, y1, y2], by simp [go_sem, y0, y1, y2], by simp [go_sem, y0, y1, y2], ((vX.other (p := ⟨Y, 0, none⟩) (fun e => hXY.1 e.symm) _).other (p := ⟨Y, 1, none⟩) (fun e => hXY.1 e.symm) _).other (p := ⟨Y, 2, none⟩) (fun e => hXY.1 e.symm) _, qz⟩
          generalize (((xb.setCell ⟨Y, 0, none⟩ (.int .i64 pw)).setCell ⟨Y, 1, none⟩ (.int .i64 ph)).setCell ⟨Y, 2, none⟩ (.slice (some ⟨X, 0, none⟩) S.length S.length)) = z at HW ⊢
          have HXY : Hid (X ≠ Y ∧ w6.heap.size ≤ X) := ⟨hXY.1, hXY.2.1⟩
          have HXA : Hid (X ≠ A + 1 ∧ w.heap.size ≤ X) := by have := HL6.out; show _ ∧ _; omega
          clear hXY qz hx y0 y1 y2 yf sz9 sz7 vX hX hY q7 q9 hm7 hM hV
          have hy0 := HW.out.1
          have hy1 := HW.out.2.1
          have hy2 := HW.out.2.2.1
          have HV0 : Hid (VR z X S.length (sofar (fun i => .int .u32 ((lvlV b S (S.getD i 0) : Nat) : Int)) (.int .u32 0) 0) ∧ Q w6 z ∧ z.cell? ⟨Y, 0, none⟩ = some (.int .i64 pw) ∧ z.cell? ⟨Y, 1, none⟩ = some (.int .i64 ph) ∧ z.cell? ⟨Y, 2, none⟩ = some (.slice (some ⟨X, 0, none⟩) S.length S.length)) := ⟨by rw [sofar_zero]; exact HW.out.2.2.2.1, HW.out.2.2.2.2, hy0, hy1, hy2⟩
          have hz2 := (HW.out.2.2.2.2).cell x2
          clear HW
          go_wp2_with fail
          clear hy0 hy1 hy2 hz2
          go_loopg [33] S.length (fun m s33 wr => ∃ i : Nat, s33 = .int .i64 (i : Int) ∧ i + m = S.length ∧ Hid (VR wr X S.length (sofar (fun i => .int .u32 ((lvlV b S (S.getD i 0) : Nat) : Int)) (.int .u32 0) i) ∧ Q w6 wr ∧ wr.cell? ⟨Y, 0, none⟩ = some (.int .i64 pw) ∧ wr.cell? ⟨Y, 1, none⟩ = some (.int .i64 ph) ∧ wr.cell? ⟨Y, 2, none⟩ = some (.slice (some ⟨X, 0, none⟩) S.length S.length)))
          case atStart => exact ⟨0, rfl, by omega, HV0⟩
          case round =>
            clear HV0
            obtain ⟨i, rfl, hi, HX⟩ := hrel
            by_cases hlt : i < S.length
            · have hc := HX.out.2.1.cell (HQ6.out.cell (HI.out i hlt))
              have hx := HB.out i
              have hki : (i : Int) < (S.length : Int) := by omega
              obtain ⟨u, hu⟩ : ∃ u, wr.cell? ⟨X, i, none⟩ = some u := ⟨_, HX.out.1.cell i hlt⟩
              have hu0 := hu
              have fu := HX.out.1.free i
              have c2 := HX.out.2.2.2.2
              have HNx : Hid (∀ v, v = lvlV b S (S.getD i 0) → VR (wr.setCell ⟨X, i, none⟩ (.int .u32 (v : Int))) X S.length (sofar (fun i => .int .u32 ((lvlV b S (S.getD i 0) : Nat) : Int)) (.int .u32 0) (i + 1)) ∧ Q w6 (wr.setCell ⟨X, i, none⟩ (.int .u32 (v : Int))) ∧ (wr.setCell ⟨X, i, none⟩ (.int .u32 (v : Int))).cell? ⟨Y, 0, none⟩ = some (.int .i64 pw) ∧ (wr.setCell ⟨X, i, none⟩ (.int .u32 (v : Int))).cell? ⟨Y, 1, none⟩ = some (.int .i64 ph) ∧ (wr.setCell ⟨X, i, none⟩ (.int .u32 (v : Int))).cell? ⟨Y, 2, none⟩ = some (.slice (some ⟨X, 0, none⟩) S.length S.length)) := fun v hv => by
                have hne : ∀ j : Nat, (⟨Y, j, none⟩ : Addr) ≠ ⟨X, i, none⟩ := fun j e => by injection e with e; exact HXY.out.1 e.symm
                refine ⟨HX.out.1.fill hlt (by rw [hv]), HX.out.2.1.set HXY.out.2 _, ?_, ?_, ?_⟩
                · rw [World.cell?_setCell_other _ _ _ _ (fun e => by injection e with e; exact HXY.out.1 (by omega))]; exact HX.out.2.2.1
                · rw [World.cell?_setCell_other _ _ _ _ (fun e => by injection e with e; exact HXY.out.1 (by omega))]; exact HX.out.2.2.2.1
                · rw [World.cell?_setCell_other _ _ _ _ (fun e => by injection e with e; exact HXY.out.1 (by omega))]; exact HX.out.2.2.2.2
              obtain ⟨s, hs⟩ : ∃ s, S.getD i 0 = s := ⟨_, rfl⟩
              have HMem : Hid (s ∈ S) := by
                show s ∈ S
                rw [← hs, List.getD_eq_getElem?_getD, List.getElem?_eq_getElem hlt]
                exact List.getElem_mem hlt
              rw [hs] at hc hx HNx
              cases hk : nanN s
              · have HNu : Hid (1 ≤ (numL S).length ∧ lvlV b S s = shN (preN (clsC b (numL S)) (clsN b s)) (numL S).length) := by
                  refine ⟨?_, ?_⟩
                  · have : s ∈ numL S := by unfold numL; rw [List.mem_filter]; exact ⟨HMem.out, by rw [hk]; rfl⟩
                    exact List.length_pos_of_mem this
                  · unfold lvlV; rw [hk]; rfl
                have hcl : clsN b s < 2 ^ b := cls_lt h2 hx
                have hGc := HG.out wr HX.out.2.1 _ hcl
                have HCx : Hid (∀ x, Calls Tryz.prog 85 #[.agg #[.int .i64 (b : Int), .slice (some ⟨H, 0, none⟩) (2 ^ b) (2 ^ b)], .int .u32 (s : Int)] x fun e w' => e = .returned (.int .i64 (clsN b s : Nat)) ∧ Q x w') := fun x => scls_any b s h1 h2 hx H (2 ^ b) (2 ^ b) x
                have HSh0 : Hid (∀ x, Calls Tryz.prog 84 #[.int .i64 ((preN (clsC b (numL S)) (clsN b s) : Nat) : Int), .int .i64 ((numL S).length : Int)] x fun e w' => e = .returned (.int .u32 (shN (preN (clsC b (numL S)) (clsN b s)) (numL S).length : Nat)) ∧ w' = x) := fun x => sshr_any _ _ HNu.out.1 (by omega) (preN_le b (numL S) _) x
                have t0r := HX.out.2.1.cell t0
                have t1r := HX.out.2.1.cell t1
                have HNy := HNx.out _ HNu.out.2.symm
                clear HNx HNu HMem
                generalize shN (preN (clsC b (numL S)) (clsN b s)) (numL S).length = v at *
                generalize preN (clsC b (numL S)) (clsN b s) = pm at *
                generalize clsN b s = k at *
                have HNz : Hid _ := HNy
                clear HNy hs
                have hkk : (k : Int) < ((2 ^ b : Nat) : Int) := by omega
                generalize 2 ^ b = N at *
                go_wp2_with fail
                refine (isnan_any s hx _).mono ?_
                rintro e w8 ⟨rfl, q8⟩
                rw [hk]
                have e0 := q8.cell c2
                have e1 := q8.cell t0r
                have e2 := q8.cell t1r
                have e3 := q8.cell hGc
                have d0 := qw_cell e0
                have d1 := qw_cell e1
                have d2 := qw_cell e2
                have d3 := qw_cell e3
                have n0 := qw_some w8
                have HCw : Hid (∀ n : QW w8, Calls Tryz.prog 85 #[.agg #[.int .i64 (b : Int), .slice (some ⟨H, 0, none⟩) N N], .int .u32 (s : Int)] n.x fun e w' => e = .returned (.int .i64 (k : Int)) ∧ Q n.x w') := fun n => HCx.out n.x
                have HSh : Hid (∀ x, Calls Tryz.prog 84 #[.int .i64 (pm : Int), .int .i64 ((numL S).length : Int)] x fun e w' => e = .returned (.int .u32 (v : Int)) ∧ w' = x) := HSh0
                clear HCx HSh0 c2 t0r t1r hGc
                go_wp2_with fail
                refine wp_lastR 13 rfl _ rfl (by kernel_rfl) (by kernel_rfl) (by kernel_rfl) ?_
                simp only [List.take_succ_cons, List.take_zero]
                repeat (first | go_big_quiet_step (first | (go_at_call 85; exact calls_qw (HCw.out _)) | (go_at_call 84; exact calls_qs (HSh.out _))) | quiet_step (first | (go_at_call 85; exact calls_qw (HCw.out _)) | (go_at_call 84; exact calls_qs (HSh.out _))))
                refine wpQuiet_nil ?_
                intro nn K hK
                clear d0 d1 d2 d3 n0
                have qn : Q wr nn.x := q8.trans nn.q
                have hu := qn.cell hu
                have fu : nn.x.frozen? ⟨X, i, none⟩ = false := by rw [qn.2]; exact fu
                have HXn : Hid (VR (nn.x.setCell ⟨X, i, none⟩ (.int .u32 (v : Int))) X S.length (sofar (fun i => .int .u32 ((lvlV b S (S.getD i 0) : Nat) : Int)) (.int .u32 0) (i + 1)) ∧ Q w6 (nn.x.setCell ⟨X, i, none⟩ (.int .u32 (v : Int))) ∧ (nn.x.setCell ⟨X, i, none⟩ (.int .u32 (v : Int))).cell? ⟨Y, 0, none⟩ = some (.int .i64 pw) ∧ (nn.x.setCell ⟨X, i, none⟩ (.int .u32 (v : Int))).cell? ⟨Y, 1, none⟩ = some (.int .i64 ph) ∧ (nn.x.setCell ⟨X, i, none⟩ (.int .u32 (v : Int))).cell? ⟨Y, 2, none⟩ = some (.slice (some ⟨X, 0, none⟩) S.length S.length)) := by
                  have hF : (sofar (fun i => .int .u32 ((lvlV b S (S.getD i 0) : Nat) : Int)) (.int .u32 0) (i + 1)) i = Value.int .u32 (v : Int) := by
                    have h0 := HNz.out.1.cell i hlt
                    rw [World.cell?_setCell_same _ _ _ hu0] at h0
                    injection h0 with h0
                    exact h0.symm
                  refine ⟨(HX.out.1.next qn).put hlt hF (sofar_step (n := S.length)).1, (HX.out.2.1.trans qn).set HXY.out.2 _, ?_, ?_, ?_⟩
                  · rw [World.cell?_setCell_other _ _ _ _ (fun e => by injection e with e; exact HXY.out.1 (by omega))]; exact qn.cell HX.out.2.2.1
                  · rw [World.cell?_setCell_other _ _ _ _ (fun e => by injection e with e; exact HXY.out.1 (by omega))]; exact qn.cell HX.out.2.2.2.1
                  · rw [World.cell?_setCell_other _ _ _ _ (fun e => by injection e with e; exact HXY.out.1 (by omega))]; exact qn.cell HX.out.2.2.2.2
                clear HNz HX qn q8 HCw HSh e0 e1 e2 e3
                go_wp2_with fail
                go_roundg (S.length - (i + 1))
                case measure => go_light; omega
                case rel => go_light; exact ⟨i + 1, by go_num, by omega, HXn⟩
              · have HNy : Hid _ := HNx.out s (by unfold lvlV; rw [hk]; rfl)
                clear HNx HMem
                go_wp2_with fail
                refine (isnan_any s hx _).mono ?_
                rintro e w8 ⟨rfl, q8⟩
                rw [hk]
                have hu := q8.cell hu
                have fu : w8.frozen? ⟨X, i, none⟩ = false := by rw [q8.2]; exact fu
                have e0 := q8.cell c2
                have HXn : Hid (VR (w8.setCell ⟨X, i, none⟩ (.int .u32 (s : Int))) X S.length (sofar (fun i => .int .u32 ((lvlV b S (S.getD i 0) : Nat) : Int)) (.int .u32 0) (i + 1)) ∧ Q w6 (w8.setCell ⟨X, i, none⟩ (.int .u32 (s : Int))) ∧ (w8.setCell ⟨X, i, none⟩ (.int .u32 (s : Int))).cell? ⟨Y, 0, none⟩ = some (.int .i64 pw) ∧ (w8.setCell ⟨X, i, none⟩ (.int .u32 (s : Int))).cell? ⟨Y, 1, none⟩ = some (.int .i64 ph) ∧ (w8.setCell ⟨X, i, none⟩ (.int .u32 (s : Int))).cell? ⟨Y, 2, none⟩ = some (.slice (some ⟨X, 0, none⟩) S.length S.length)) := by
                  have hF : (sofar (fun i => .int .u32 ((lvlV b S (S.getD i 0) : Nat) : Int)) (.int .u32 0) (i + 1)) i = Value.int .u32 (s : Int) := by
                    have h0 := HNy.out.1.cell i hlt
                    rw [World.cell?_setCell_same _ _ _ hu0] at h0
                    injection h0 with h0
                    exact h0.symm
                  refine ⟨(HX.out.1.next q8).put hlt hF (sofar_step (n := S.length)).1, (HX.out.2.1.trans q8).set HXY.out.2 _, ?_, ?_, ?_⟩
                  · rw [World.cell?_setCell_other _ _ _ _ (fun e => by injection e with e; exact HXY.out.1 (by omega))]; exact q8.cell HX.out.2.2.1
                  · rw [World.cell?_setCell_other _ _ _ _ (fun e => by injection e with e; exact HXY.out.1 (by omega))]; exact q8.cell HX.out.2.2.2.1
                  · rw [World.cell?_setCell_other _ _ _ _ (fun e => by injection e with e; exact HXY.out.1 (by omega))]; exact q8.cell HX.out.2.2.2.2
                clear HNy HX q8 c2
                go_wp2_with fail
                go_roundg (S.length - (i + 1))
                case measure => go_light; omega
                case rel => go_light; exact ⟨i + 1, by go_num, by omega, HXn⟩
            · obtain rfl : i = S.length := by omega
              have hge : ¬ (S.length : Int) < (S.length : Int) := by omega
              have c0 := HX.out.2.2.1
              have c1 := HX.out.2.2.2.1
              have c2 := HX.out.2.2.2.2
              have r0 := HX.out.2.1.cell r0
              have r1 := HX.out.2.1.cell r1
              have r2 := HX.out.2.1.cell r2
              have rf : ∀ j, wr.frozen? ⟨A + 1, j, none⟩ = false := fun j => by rw [HX.out.2.1.2]; exact HRF.out j
              go_wp2_with fail
              refine bodyPost_ret (v := .agg #[.int .i64 pw, .int .i64 ph, .slice (some ⟨X, 0, none⟩) S.length S.length]) (by simp [results, Tryz.results60, go_sem, r0, r1, r2]) rfl ⟨X, rfl, ?_, by have := HXA.out.2; omega, ?_⟩
              · exact ((HX.out.1.full.other (p := ⟨A + 1, 0, none⟩) (fun e => HXA.out.1 e.symm) _).other (p := ⟨A + 1, 1, none⟩) (fun e => HXA.out.1 e.symm) _).other (p := ⟨A + 1, 2, none⟩) (fun e => HXA.out.1 e.symm) _
              · exact (((HQ6.out.trans HX.out.2.1).set HLA.out _).set HLA.out _).set HLA.out _
end Go.Proofs.YtieojgblamkgoaaGreatDoor
