/- stat: Merge. -/
import Derived.Test.YtieojgblamkgoaaGreatDoorGbca46a39
import Derived.Test.YtieojgblamkgoaaGreatDoorG5d60fafd
import Derived.Test.YtieojgblamkgoaaGreatDoorG2d4e46c5
import Derived.Test.YtieojgblamkgoaaGreatDoorG6dfefa34
import Derived.Test.YtieojgblamkgoaaGreatDoorG47785df2
import Derived.Test.YtieojgblamkgoaaGreatDoorGb748240f
import Derived.Test.YtieojgblamkgoaaGreatDoorG63430311
namespace Go.Proofs.YtieojgblamkgoaaGreatDoor
open Go.RowKit
set_option linter.unusedVariables false
set_option linter.unusedSimpArgs false

/-- Counts, of which the first have been put together. -/
def mgV (c c' : Nat → Nat) (i j : Nat) : Nat := if j < i then c j + c' j else c j
theorem mgV_zero (c c' : Nat → Nat) (j : Nat) : mgV c c' 0 j = c j := by unfold mgV; rw [if_neg (by omega)]
theorem mgV_at (c c' : Nat → Nat) (i : Nat) : mgV c c' i i = c i := by unfold mgV; rw [if_neg (by omega)]
theorem mgV_next (c c' : Nat → Nat) (i : Nat) : mgV c c' (i + 1) i = c i + c' i := by unfold mgV; rw [if_pos (by omega)]
theorem mgV_other (c c' : Nat → Nat) {i j : Nat} (h : j ≠ i) : mgV c c' (i + 1) j = mgV c c' i j := by
  unfold mgV
  by_cases k : j < i
  · rw [if_pos k, if_pos (by omega)]
  · rw [if_neg k, if_neg (by omega)]
theorem mgV_all {c c' : Nat → Nat} {n j : Nat} (h : j < n) : mgV c c' n j = c j + c' j := by unfold mgV; rw [if_pos h]
set_option maxHeartbeats 4000000 in
set_option maxRecDepth 100000 in
theorem tmerge_any (b H kc b' H' kc' : Nat) (c c' : Nat → Nat) (w : World) (h2 : b ≤ 12) (hT : VR w H (2 ^ b) (fun j => .int .i64 (c j : Nat))) (hR : ∀ wr i, i < 2 ^ b → Fb H w wr → VR wr H (2 ^ b) (fun j => .int .i64 (mgV c c' i j : Nat)) → wr.cell? ⟨H', i, none⟩ = some (.int .i64 (c' i : Nat)))
    (hcap : 2 ^ b ≤ kc) (hcap' : 2 ^ b ≤ kc') (hc : ∀ j, c j ≤ 35184372087808) (hc' : ∀ j, c' j ≤ 35184372087808) :
    Calls Tryz.prog 45 #[talV b H kc, .agg #[.int .i64 (b' : Int), .slice (some ⟨H', 0, none⟩) (2 ^ b) kc']] w fun e w' => e = .returned (.tuple #[]) ∧ VR w' H (2 ^ b) (fun j => .int .i64 ((c j + c' j : Nat) : Int)) ∧ Fb H w w' := by
  have hp : 2 ^ b ≤ 2 ^ 12 := Nat.pow_le_pow_right (by decide) h2
  have hp1 : 1 ≤ 2 ^ b := Nat.one_le_two_pow
  obtain ⟨w1, hw1⟩ : ∃ w1, (w.alloc (.cells #[.int .i64 (b : Int), .slice (some ⟨H, 0, none⟩) (2 ^ b) kc] 72)).alloc (.cells #[.int .i64 (b' : Int), .slice (some ⟨H', 0, none⟩) (2 ^ b) kc'] 72) = w1 := ⟨_, rfl⟩
  obtain ⟨A, hA⟩ : ∃ A, w.heap.size = A := ⟨_, rfl⟩
  have q1 : Q w w1 := by rw [← hw1]; exact ((Q.refl w).cells _ _).cells _ _
  have z1 : w1.cell? ⟨A, 1, none⟩ = some (.slice (some ⟨H, 0, none⟩) (2 ^ b) kc) := by rw [← hw1, ← hA]; simp [go_sem]
  have y1 : w1.cell? ⟨A + 1, 1, none⟩ = some (.slice (some ⟨H', 0, none⟩) (2 ^ b) kc') := by rw [← hw1, ← hA]; simp [go_sem]
  have hHA : H < A := by have := hT.lt hp1; omega
  have H0 : Hid (VR w1 H (2 ^ b) (fun j => .int .i64 (mgV c c' 0 j : Nat)) ∧ Fb H w w1) := ⟨(hT.next q1).congr fun j _ => by rw [mgV_zero], q1.fb H⟩
  have HZ : Hid (∀ wr, Fb H w1 wr → wr.cell? ⟨A, 1, none⟩ = some (.slice (some ⟨H, 0, none⟩) (2 ^ b) kc)) := fun wr f => f.cell z1 (show A ≠ H by omega)
  have HR : Hid _ := hR
  have HB : Hid (∀ j, c j ≤ 35184372087808 ∧ c' j ≤ 35184372087808) := fun j => ⟨hc j, hc' j⟩
  have HF1 : Hid (Fb H w w1) := q1.fb H
  clear hT hR hc hc' z1 q1
  unfold talV
  generalize 2 ^ b = N at *
  go_enter Tryz.func45, Tryz.ntmps45
  go_wp2_with fail
  clear hw1 y1
  go_loopg [9] N (fun m s9 wr => ∃ i : Nat, s9 = .int .i64 (i : Int) ∧ i + m = N ∧ Hid (VR wr H N (fun j => .int .i64 (mgV c c' i j : Nat)) ∧ Fb H w1 wr))
  case atStart => exact ⟨0, rfl, by omega, H0.out.1, Fb.refl _ _⟩
  case round =>
    clear H0
    obtain ⟨i, rfl, hi, HX⟩ := hrel
    by_cases hlt : i < N
    · have cR := HR.out wr i hlt (HF1.out.trans HX.out.2) HX.out.1
      have cL := HX.out.1.cell i hlt
      rw [mgV_at] at cL
      have fz := HX.out.1.free i
      have cz := HZ.out wr HX.out.2
      have hb := HB.out i
      have HY : Hid (VR (wr.setCell ⟨H, i, none⟩ (.int .i64 ((c i + c' i : Nat) : Int))) H N (fun j => .int .i64 (mgV c c' (i + 1) j : Nat)) ∧ Fb H w1 (wr.setCell ⟨H, i, none⟩ (.int .i64 ((c i + c' i : Nat) : Int)))) := ⟨HX.out.1.put hlt (by rw [mgV_next]) (fun j hj hne => by rw [mgV_other _ _ hne]), HX.out.2.set rfl _⟩
      have hki : (i : Int) < (N : Int) := by omega
      generalize c i = p at *
      generalize c' i = q at *
      clear HX
      go_wp2_with fail
      go_roundg (N - (i + 1))
      case measure => go_light; omega
      case rel => go_light; exact ⟨i + 1, by go_num, by omega, HY⟩
    · obtain rfl : i = N := by omega
      have hge : ¬ (i : Int) < (i : Int) := by omega
      go_wp2_with fail
      refine bodyPost_end (results_none Tryz.results45 _ _ _) rfl ⟨rfl, HX.out.1.congr (fun j hj => by simp [mgV_all hj]), HF1.out.trans HX.out.2⟩
theorem vr_same {w : World} {H n : Nat} {c c' : Nat → Nat} (h : VR w H n (fun j => .int .i64 (c j : Nat))) (h' : VR w H n (fun j => .int .i64 (c' j : Nat))) {j : Nat} (hj : j < n) : c' j = c j := by
  have e := (h.cell j hj).symm.trans (h'.cell j hj)
  injection e with e
  injection e with _ e
  omega
set_option maxHeartbeats 8000000 in
set_option maxRecDepth 100000 in
theorem smerge_any (P A H b kc P' A' H' kc' : Nat) (L L' : List Nat) (w : World) (h : StAt w P A H b kc L) (h' : StAt w P' A' H' b kc' L') (hPA : P' ≠ A) (hPH : P' ≠ H) (hHA : H' ≠ A) (hL : L.length ≤ 1000000) (hL' : L'.length ≤ 1000000) :
    Calls Tryz.prog 13 #[.pointer (some ⟨P, 0, none⟩), .pointer (some ⟨P', 0, none⟩)] w fun e w' => e = .returned (.int .i64 0) ∧ StAt w' P A H b kc (L ++ L') ∧ Fr w w' (stB P A H) := by
  have p1 := h.p1
  have p1' := h'.p1
  have d0 := qw_cell p1
  have d1 := qw_cell p1'
  have n0 := qw_some w
  have hne : ((b : Int) != (b : Int)) = false := by simp
  have HC0 : Hid (1 ≤ b ∧ b ≤ 12 ∧ 2 ^ b ≤ kc ∧ P ≠ A ∧ P ≠ H ∧ A ≠ H) := ⟨h.b1, h.b2, h.cap, h.pa, h.ph, h.ah⟩
  have HC1 : Hid (2 ^ b ≤ kc') := h'.cap
  have HS : Hid (StAt w P A H b kc L) := h
  have HS' : Hid (StAt w P' A' H' b kc' L') := h'
  clear h h' p1 p1'
  go_enter Tryz.func13, Tryz.ntmps13
  go_wp2_with fail
  refine wp_region_quiet_Q (by kernel_rfl) (by kernel_rfl) ?_
  repeat (first | go_big_quiet_step (fail) | quiet_step (fail))
  refine wpQuiet_nil ?_
  intro w1 hw'
  have hq1 := qw_out hw'
  have HQ1 : Hid (Q w w1) := hq1
  have HS1 : Hid (StAt w1 P A H b kc L) := HS.out.next hq1
  have HS1' : Hid (StAt w1 P' A' H' b kc' L') := HS'.out.next hq1
  clear d0 d1 n0 hw' hq1 HS HS'
  have p0 := HS1.out.p0
  have p0' := HS1'.out.p0
  have d0 := qw_cell p0
  have d1 := qw_cell p0'
  have n0 := qw_some w1
  clear p0 p0'
  go_wp2_with fail
  refine wp_lastR 8 rfl _ rfl (by kernel_rfl) (by kernel_rfl) (by kernel_rfl) ?_
  simp only [List.take_succ_cons, List.take_zero]
  repeat (first | go_big_quiet_step (fail) | quiet_step (fail))
  refine wpQuiet_nil ?_
  intro n2 K2 hK2
  clear d0 d1 n0
  have HQ2 : Hid (Q w n2.x) := HQ1.out.trans n2.q
  have HS2 : Hid (StAt n2.x P A H b kc L) := HS1.out.next n2.q
  have HS2' : Hid (StAt n2.x P' A' H' b kc' L') := HS1'.out.next n2.q
  clear HQ1 HS1 HS1'
  generalize n2.x = w2 at *
  obtain ⟨N, hacc⟩ := HS2.out.acc
  obtain ⟨N', hacc'⟩ := HS2'.out.acc
  have KM := merge_any L L' A A' L.length L'.length N N' w2 hacc hacc' (by omega)
  clear hacc hacc'
  go_wp2_with fail
  refine Calls.mono KM ?_
  rintro e w3 ⟨rfl, hA3, f3⟩
  clear KM
  have HA3 : Hid (AccAt w3 A (L ++ L')) := ⟨_, by rw [List.length_append]; exact hA3⟩
  have HF3 : Hid (Fr w w3 (stB P A H)) := (HQ2.out.fr _).trans ⟨f3.os, f3.tape, f3.output, f3.size, fun x hx hr => f3.block x hx hr.2.1, f3.frz⟩
  have hPa := HC0.out.2.2.2.1
  have hHa : H ≠ A := fun e => HC0.out.2.2.2.2.2 e.symm
  have p0 := f3.cell HS2.out.p0 hPa
  have p1 := f3.cell HS2.out.p1 hPa
  have p2 := f3.cell HS2.out.p2 hPa
  have p3 := f3.cell HS2.out.p3 hPa
  have p4 := f3.cell HS2.out.p4 hPa
  have p5 := f3.cell HS2.out.p5 hPa
  have o1 := f3.cell HS2'.out.p1 hPA
  have o2 := f3.cell HS2'.out.p2 hPA
  have o3 := f3.cell HS2'.out.p3 hPA
  have o4 := f3.cell HS2'.out.p4 hPA
  have o5 := f3.cell HS2'.out.p5 hPA
  have hT3 : VR w3 H (2 ^ b) (fun j => .int .i64 ((clsC b L j : Nat) : Int)) := ⟨fun i hi => f3.cell (HS2.out.tal.cell i hi) hHa, fun j => (f3.frz _).trans (HS2.out.tal.free j)⟩
  have hT3' : VR w3 H' (2 ^ b) (fun j => .int .i64 ((clsC b L' j : Nat) : Int)) := ⟨fun i hi => f3.cell (HS2'.out.tal.cell i hi) hHA, fun j => (f3.frz _).trans (HS2'.out.tal.free j)⟩
  have HZ3 : Hid (∀ j, w3.frozen? ⟨P, j, none⟩ = false) := fun j => (f3.frz _).trans (HS2.out.fz j)
  clear hA3 f3 HQ2 HS2 HS2' hPa hHa
  have hcl : ∀ j, clsC b L j ≤ 35184372087808 := fun j => by have := clsC_le b L j; omega
  have hcl' : ∀ j, clsC b L' j ≤ 35184372087808 := fun j => by have := clsC_le b L' j; omega
  have HR : ∀ wr i, i < 2 ^ b → Fb H w3 wr → VR wr H (2 ^ b) (fun j => .int .i64 (mgV (clsC b L) (clsC b L') i j : Nat)) → wr.cell? ⟨H', i, none⟩ = some (.int .i64 (clsC b L' i : Nat)) := fun wr i hi f hv => by
    by_cases hh : H' = H
    · subst hh
      rw [vr_same hT3 hT3' hi, hv.cell i hi, mgV_at]
    · exact f.cell (hT3'.cell i hi) hh
  have KT : Hid _ := fun n : QW w3 => tmerge_any b H kc b H' kc' (clsC b L) (clsC b L') n.x HC0.out.2.1 (hT3.next n.q) (fun wr i hi f hv => HR wr i hi ((n.q.fb H).trans f) hv) HC0.out.2.2.1 HC1.out hcl hcl'
  clear hT3 hT3' hcl hcl' HR
  unfold talV at KT
  have dp1 := qw_cell p1
  have dp2 := qw_cell p2
  have do1 := qw_cell o1
  have do2 := qw_cell o2
  have n0 := qw_some w3
  go_wp2_with fail
  refine wp_lastR 8 rfl _ rfl (by kernel_rfl) (by kernel_rfl) (by kernel_rfl) ?_
  simp only [List.take_succ_cons, List.take_zero]
  repeat (first | go_big_quiet_step (fail) | quiet_step (fail))
  refine wpQuiet_nil ?_
  intro n3 K3 hK3
  clear dp1 dp2 do1 do2 n0
  have KT3 := KT.out n3
  have HF4 : Hid (Fr w n3.x (stB P A H)) := HF3.out.trans (n3.q.fr _)
  have HA4 : Hid (AccAt n3.x A (L ++ L')) := HA3.out.next n3.q
  have HZ4 : Hid (∀ j, n3.x.frozen? ⟨P, j, none⟩ = false) := fun j => by rw [n3.q.2]; exact HZ3.out j
  have p0 := n3.q.cell p0
  have p1 := n3.q.cell p1
  have p2 := n3.q.cell p2
  have p3 := n3.q.cell p3
  have p4 := n3.q.cell p4
  have p5 := n3.q.cell p5
  have o3 := n3.q.cell o3
  have o4 := n3.q.cell o4
  have o5 := n3.q.cell o5
  clear KT HF3 HA3 HZ3 o1 o2
  generalize n3.x = w4 at *
  go_wp2_with fail
  refine Calls.mono KT3 ?_
  rintro e w5 ⟨rfl, hT5, f5⟩
  have hPh := HC0.out.2.2.2.2.1
  have p0 := f5.cell p0 hPh
  have p1 := f5.cell p1 hPh
  have p2 := f5.cell p2 hPh
  have p3 := f5.cell p3 hPh
  have p4 := f5.cell p4 hPh
  have p5 := f5.cell p5 hPh
  have o3 := f5.cell o3 hPH
  have o4 := f5.cell o4 hPH
  have o5 := f5.cell o5 hPH
  have HA8 : Hid (AccAt w5 A (L ++ L')) := HA4.out.far f5 HC0.out.2.2.2.2.2
  have HZ8 : Hid (∀ j, w5.frozen? ⟨P, j, none⟩ = false) := fun j => (f5.frz _).trans (HZ4.out j)
  have HF8 : Hid (Fr w w5 (stB P A H)) := HF4.out.trans ⟨f5.os, f5.tape, f5.output, f5.size, fun x hx hr => f5.block x hx hr.2.2, f5.frz⟩
  have HT8 : Hid (VR w5 H (2 ^ b) (fun j => .int .i64 ((clsC b (L ++ L') j : Nat) : Int))) := hT5.congr fun j _ => by rw [clsC_append]
  clear HA4 HZ4 HF4 f5 hT5 hPh KT3
  have HWi : Hid (∀ n : QW w5, Calls Tryz.prog 46 #[.agg #[.int .u32 (lowK L : Nat), .int .u32 (topK L : Nat)], .agg #[.int .u32 (lowK L' : Nat), .int .u32 (topK L' : Nat)]] n.x fun e w' => e = .returned (.agg #[.int .u32 (lowK (L ++ L') : Nat), .int .u32 (topK (L ++ L') : Nat)]) ∧ Q n.x w') := fun n => by
    have := with_any (lowK L) (topK L) (lowK L') (topK L') n.x
    rw [← lowK_append, ← topK_append] at this
    exact this
  have dp3 := qw_cell p3
  have dp4 := qw_cell p4
  have do3 := qw_cell o3
  have do4 := qw_cell o4
  have n0 := qw_some w5
  go_wp2_with fail
  refine wp_lastR 12 rfl _ rfl (by kernel_rfl) (by kernel_rfl) (by kernel_rfl) ?_
  simp only [List.take_succ_cons, List.take_zero]
  repeat (first | go_big_quiet_step (first | (go_at_call 46; exact calls_qw (HWi.out _))) | quiet_step (first | (go_at_call 46; exact calls_qw (HWi.out _))))
  refine wpQuiet_nil ?_
  intro n5 K5 hK5
  clear dp3 dp4 do3 do4 n0 HWi
  have p0 := n5.q.cell p0
  have p1 := n5.q.cell p1
  have p2 := n5.q.cell p2
  have p3 := n5.q.cell p3
  have p4 := n5.q.cell p4
  have p5 := n5.q.cell p5
  have o5 := n5.q.cell o5
  have HA9 : Hid (AccAt n5.x A (L ++ L')) := HA8.out.next n5.q
  have HZ9 : ∀ j, n5.x.frozen? ⟨P, j, none⟩ = false := fun j => by rw [n5.q.2]; exact HZ8.out j
  have HF9 : Hid (Fr w n5.x (stB P A H)) := HF8.out.trans (n5.q.fr _)
  have HT9 : Hid (VR n5.x H (2 ^ b) (fun j => .int .i64 ((clsC b (L ++ L') j : Nat) : Int))) := HT8.out.next n5.q
  clear HA8 HZ8 HF8 HT8 o3 o4
  generalize n5.x = w9 at *
  go_wp2_with fail
  have hPA2 := HC0.out.2.2.2.1
  have hPH2 := HC0.out.2.2.2.2.1
  obtain ⟨y, hy⟩ : ∃ y, (w9.setCell ⟨P, 3, none⟩ (.int .u32 (lowK (L ++ L') : Nat))).setCell ⟨P, 4, none⟩ (.int .u32 (topK (L ++ L') : Nat)) = y := ⟨_, rfl⟩
  have cE : ∀ Bk j v, Bk ≠ P → w9.cell? ⟨Bk, j, none⟩ = some v → y.cell? ⟨Bk, j, none⟩ = some v := fun Bk j v hne hc => by
    rw [← hy, World.cell?_setCell_other _ _ _ _ (fun e => by injection e with e; omega), World.cell?_setCell_other _ _ _ _ (fun e => by injection e with e; omega)]; exact hc
  have cP : ∀ Bk j v, j ≠ 3 → j ≠ 4 → w9.cell? ⟨Bk, j, none⟩ = some v → y.cell? ⟨Bk, j, none⟩ = some v := fun Bk j v h3 h4 hc => by
    rw [← hy, World.cell?_setCell_other _ _ _ _ (fun e => by injection e with _ e; omega), World.cell?_setCell_other _ _ _ _ (fun e => by injection e with _ e; omega)]; exact hc
  have p0' := cP P 0 _ (by decide) (by decide) p0
  have p1' := cP P 1 _ (by decide) (by decide) p1
  have p2' := cP P 2 _ (by decide) (by decide) p2
  have p5' := cP P 5 _ (by decide) (by decide) p5
  have o5' := cP P' 5 _ (by decide) (by decide) o5
  have p4' : y.cell? ⟨P, 4, none⟩ = some (.int .u32 (topK (L ++ L') : Nat)) := by
    rw [← hy]; exact set_same (u := .int .u32 (topK L : Nat)) (by rw [set_off (by decide)]; exact p4)
  have p3' : y.cell? ⟨P, 3, none⟩ = some (.int .u32 (lowK (L ++ L') : Nat)) := by
    rw [← hy, set_off (by decide)]; exact set_same p3
  have fzy : ∀ a : Addr, y.frozen? a = w9.frozen? a := fun a => by rw [← hy, World.frozen?_setCell, World.frozen?_setCell]
  have HAy : Hid (AccAt y A (L ++ L')) := by
    obtain ⟨N', h'⟩ := HA9
    exact ⟨N', fun j hj => cE A j _ (fun e => hPA2 e.symm) (h'.n j hj), h'.r, cE A 5 _ (fun e => hPA2 e.symm) h'.m, cE A 6 _ (fun e => hPA2 e.symm) h'.c, fun j => (fzy _).trans (h'.z j)⟩
  have HTy : Hid (VR y H (2 ^ b) (fun j => .int .i64 ((clsC b (L ++ L') j : Nat) : Int))) := ⟨fun j hj => cE H j _ (fun e => hPH2 e.symm) (HT9.out.cell j hj), fun j => (fzy _).trans (HT9.out.free j)⟩
  have HZy : Hid (∀ j, y.frozen? ⟨P, j, none⟩ = false) := fun j => (fzy _).trans (HZ9 j)
  have HFy : Hid (Fr w y (stB P A H)) := by
    show Fr w y (stB P A H)
    rw [← hy]
    exact (HF9.out.set (fun e => e.1 rfl) _).set (fun e => e.1 rfl) _
  rw [hy]
  clear hy cE cP p0 p1 p2 p3 p4 p5 o5 fzy HA9 HT9 HZ9 HF9
  have hnc : nanC L ≤ L.length := List.countP_le_length
  have hnc' : nanC L' ≤ L'.length := List.countP_le_length
  have dp5 := qw_cell p5'
  have do5 := qw_cell o5'
  have n0 := qw_some y
  refine wp_lastR 11 rfl _ rfl (by kernel_rfl) (by kernel_rfl) (by kernel_rfl) ?_
  simp only [List.take_succ_cons, List.take_zero]
  repeat (first | go_big_quiet_step (fail) | quiet_step (fail))
  refine wpQuiet_nil ?_
  intro n4 K4 hK4
  clear dp5 do5 n0
  have p0 := n4.q.cell p0'
  have p1 := n4.q.cell p1'
  have p2 := n4.q.cell p2'
  have p3 := n4.q.cell p3'
  have p4 := n4.q.cell p4'
  have p5 := n4.q.cell p5'
  have HAz : Hid (AccAt n4.x A (L ++ L')) := HAy.out.next n4.q
  have HZz : ∀ j, n4.x.frozen? ⟨P, j, none⟩ = false := fun j => by rw [n4.q.2]; exact HZy.out j
  have HFz : Hid (Fr w n4.x (stB P A H)) := HFy.out.trans (n4.q.fr _)
  have HTz : Hid (VR n4.x H (2 ^ b) (fun j => .int .i64 ((clsC b (L ++ L') j : Nat) : Int))) := HTy.out.next n4.q
  clear HAy HZy HFy HTy p0' p1' p2' p3' p4' p5' o5'
  generalize n4.x = z at *
  go_wp2_with fail
  go_ret
  refine ⟨rfl, ?_, HFz.out.set (fun e => e.1 rfl) _⟩
  have cE : ∀ Bk j v u, Bk ≠ P → z.cell? ⟨Bk, j, none⟩ = some v → (z.setCell ⟨P, 5, none⟩ u).cell? ⟨Bk, j, none⟩ = some v := fun Bk j v u hne hc => by
    rw [World.cell?_setCell_other _ _ _ _ (fun e => by injection e with e; omega)]; exact hc
  refine ⟨HC0.out.1, HC0.out.2.1, ?_, ?_, ?_, ?_, ?_, ?_, ?_, ?_, ?_, HC0.out.2.2.1, hPA2, hPH2, HC0.out.2.2.2.2.2⟩
  · rw [set_off (by decide)]; exact p0
  · rw [set_off (by decide)]; exact p1
  · rw [set_off (by decide)]; exact p2
  · rw [set_off (by decide)]; exact p3
  · rw [set_off (by decide)]; exact p4
  · have e3 : ((nanC L : Int) + (nanC L' : Int)) = ((nanC (L ++ L') : Nat) : Int) := by rw [nanC_append]; omega
    rw [e3]; exact set_same p5
  · intro j; rw [World.frozen?_setCell]; exact HZz j
  · obtain ⟨N', h'⟩ := HAz
    exact ⟨N', fun j hj => cE A j _ _ (fun e => hPA2 e.symm) (h'.n j hj), h'.r, cE A 5 _ _ (fun e => hPA2 e.symm) h'.m, cE A 6 _ _ (fun e => hPA2 e.symm) h'.c, fun j => by rw [World.frozen?_setCell]; exact h'.z j⟩
  · exact ⟨fun j hj => cE H j _ _ (fun e => hPH2 e.symm) (HTz.out.cell j hj), fun j => by rw [World.frozen?_setCell]; exact HTz.out.free j⟩
end Go.Proofs.YtieojgblamkgoaaGreatDoor
/- stat: a plane's samples in parts (the statements' helper all). -/
namespace Go.Proofs.YtieojgblamkgoaaGreatDoor
open Go.RowKit
set_option linter.unusedVariables false
set_option linter.unusedSimpArgs false

theorem run_mnI {P : Program} (ts : Array TypeId) (t : TypeId) (x y : Int) (w : World) : (Builtin.min_ ts t #[.int .i64 x, .int .i64 y]).run P w = .ok (.int .i64 (min x y)) w := by
  rcases Int.lt_or_le y x with h | h
  · simp [go_sem, h] <;> omega
  · simp [go_sem, Int.not_lt.2 h] <;> omega
theorem run_mxI {P : Program} (ts : Array TypeId) (t : TypeId) (x y : Int) (w : World) : (Builtin.max_ ts t #[.int .i64 x, .int .i64 y]).run P w = .ok (.int .i64 (max x y)) w := by
  rcases Int.lt_or_le x y with h | h
  · simp [go_sem, h] <;> omega
  · simp [go_sem, Int.not_lt.2 h] <;> omega
/-- Whole rows of a plane. -/
theorem crop_rows {a b y0 d : Nat} {S : List Nat} (ha : 1 ≤ a) (hl : S.length = a * b) (hd : y0 + d ≤ b) : crL a 0 y0 a d S = (S.drop (y0 * a)).take (d * a) := by
  have hlen : y0 * a + d * a ≤ S.length := by
    rw [hl, ← Nat.add_mul, Nat.mul_comm a b]
    exact Nat.mul_le_mul_right _ hd
  apply List.ext_getElem?
  intro i
  rcases Nat.lt_or_ge i (d * a) with h | h
  · rw [List.getElem?_take, if_pos h, List.getElem?_drop]
    have h2 : i < a * d := by rw [Nat.mul_comm]; exact h
    have e1 : (crL a 0 y0 a d S)[i]? = some ((crL a 0 y0 a d S).getD i 0) := by
      have hi : i < (crL a 0 y0 a d S).length := by unfold crL; rw [tab_length]; exact h2
      rw [List.getD_eq_getElem?_getD, List.getElem?_eq_getElem hi]; rfl
    have hS : y0 * a + i < S.length := by omega
    rw [e1]
    unfold crL
    rw [tab_get h2]
    unfold smp
    rw [show (y0 + i / a) * a + (0 + i % a) = y0 * a + i by
      have := Nat.div_add_mod i a
      rw [Nat.add_mul, Nat.mul_comm (i / a) a]; omega]
    rw [List.getD_eq_getElem?_getD, List.getElem?_eq_getElem hS]; rfl
  · rw [List.getElem?_eq_none (by unfold crL; rw [tab_length, Nat.mul_comm]; exact h), List.getElem?_eq_none (by rw [List.length_take, List.length_drop]; omega)]
theorem rows_join {a b y0 d : Nat} {S : List Nat} (ha : 1 ≤ a) (hl : S.length = a * b) (hd : y0 + d ≤ b) : S.take ((y0 + d) * a) = S.take (y0 * a) ++ crL a 0 y0 a d S := by
  rw [crop_rows ha hl hd, Nat.add_mul, List.take_add]
set_option maxHeartbeats 8000000 in
set_option maxRecDepth 100000 in
theorem all_any (pa pb g o cap b : Nat) (S : List Nat) (cv : Value) (C : List Int) (back : Bool) (w : World) (h1 : 1 ≤ b) (h2 : b ≤ 12) (hp : Pl w g o S.length cap pa pb S) (hc : ISl w cv C) (hb : ∀ i, S.getD i 0 < 4294967296) (hC : C.length ≤ 1000000) :
    Calls Tryz.prog 27 #[.agg #[.int .i64 (pa : Int), .int .i64 (pb : Int), .slice (some ⟨g, o, none⟩) S.length cap], .int .i64 (b : Int), cv, .bool back] w fun e w' => ∃ P A H kc L, e = .returned (.pointer (some ⟨P, 0, none⟩)) ∧ StAt w' P A H b kc L ∧ L.Perm S ∧ (w.heap.size ≤ P ∧ w.heap.size ≤ A ∧ w.heap.size ≤ H) ∧ Q w w' := by
  obtain ⟨ca, cc, rfl⟩ := hc.form
  obtain ⟨w1, hw1⟩ : ∃ w1, w.alloc (.cells #[.int .i64 (pa : Int), .int .i64 (pb : Int), .slice (some ⟨g, o, none⟩) S.length cap] 26) = w1 := ⟨_, rfl⟩
  obtain ⟨B, hB⟩ : ∃ B, w.heap.size = B := ⟨_, rfl⟩
  have q1 : Q w w1 := by rw [← hw1]; exact (Q.refl w).cells _ _
  have z0 : w1.cell? ⟨B, 0, none⟩ = some (.int .i64 (pa : Int)) := by rw [← hw1, ← hB]; simp [go_sem]
  have z1 : w1.cell? ⟨B, 1, none⟩ = some (.int .i64 (pb : Int)) := by rw [← hw1, ← hB]; simp [go_sem]
  have z2 : w1.cell? ⟨B, 2, none⟩ = some (.slice (some ⟨g, o, none⟩) S.length cap) := by rw [← hw1, ← hB]; simp [go_sem]
  have HQ1 : Hid (Q w w1) := q1
  have HZ : Hid (∀ x, Q w1 x → x.cell? ⟨B, 0, none⟩ = some (.int .i64 (pa : Int)) ∧ x.cell? ⟨B, 1, none⟩ = some (.int .i64 (pb : Int)) ∧ x.cell? ⟨B, 2, none⟩ = some (.slice (some ⟨g, o, none⟩) S.length cap)) := fun x q => ⟨q.cell z0, q.cell z1, q.cell z2⟩
  have hsz := hp.size
  have ha1 := hsz.a1
  have ha2 := hsz.a2
  have hb1 := hsz.b1
  have hb2 := hsz.b2
  have hSl : S.length ≤ 65536 := by rw [hp.len]; exact hsz.ab
  have HP : Hid (∀ x, Q w1 x → Pl x g o S.length cap pa pb S) := fun x q => (hp.next q1).next q
  have HI : Hid (ISl w (.slice ca C.length cc) C) := hc
  have HB : Hid (∀ i, S.getD i 0 < 4294967296) := hb
  have HL : Hid (S.length = pa * pb) := hp.len
  clear hp hc hb z0 z1 z2 q1
  go_enter Tryz.func27, Tryz.ntmps27
  go_wp2_with fail
  clear hw1
  refine Calls.mono (snew_good b h1 h2 _) ?_
  rintro e w2 ⟨P, A, H, kc, rfl, lP, lA, lH, hS, q2⟩
  have HS2 : Hid (∃ P' A H kc L, P' = P ∧ StAt w2 P' A H b kc L ∧ L.Perm (S.take (0 * pa)) ∧ (w1.heap.size ≤ P' ∧ w1.heap.size ≤ A ∧ w1.heap.size ≤ H) ∧ Q w1 w2) := ⟨P, A, H, kc, [], rfl, hS, by rw [Nat.zero_mul, List.take_zero], ⟨lP, lA, lH⟩, q2⟩
  clear hS q2 lP lA lH
  go_wp2_with fail
  go_loopg [9, 11, 12] (C.length + 1) (fun m s9 s11 s12 wr => ∃ (P i a : Nat), s9 = .pointer (some ⟨P, 0, none⟩) ∧ s11 = .int .i64 (a : Int) ∧ s12 = .int .i64 (i : Int) ∧ i + m = C.length + 1 ∧ (a ≤ pb ∧ (i = C.length + 1 → a = pb)) ∧ Hid (∃ P' A H kc L, P' = P ∧ StAt wr P' A H b kc L ∧ L.Perm (S.take (a * pa)) ∧ (w1.heap.size ≤ P' ∧ w1.heap.size ≤ A ∧ w1.heap.size ≤ H) ∧ Q w1 wr))
  case atStart => exact ⟨P, 0, 0, rfl, rfl, rfl, by omega, ⟨by omega, by omega⟩, HS2⟩
  case round =>
    clear HS2
    obtain ⟨P, i, a, rfl, rfl, rfl, hi, hab, HX⟩ := hrel
    obtain ⟨P', A, H, kc, L, rfl, hS, hperm, hlow, hq⟩ := HX.out
    have hz := HZ.out wr hq
    have hz0 := hz.1
    have hz1 := hz.2.1
    have hz2 := hz.2.2
    clear hz
    by_cases hend : i ≤ C.length ∧ a < pb
    · obtain ⟨k1, k2⟩ := hend
      have k1' : (i : Int) ≤ (C.length : Int) := by omega
      have k2' : (a : Int) < (pb : Int) := by omega
      clear HX
      by_cases k3 : i < C.length
      · have k3' : (i : Int) < (C.length : Int) := by omega
        obtain ⟨cg, co, ccap, hcv, hcI⟩ := HI.out.some (by omega)
        injection hcv with hc1 hc2 hc3
        subst hc1 hc3
        clear hc2
        have cI := (HQ1.out.trans hq).cell (hcI i k3)
        obtain ⟨z, hzv⟩ : ∃ z, C.getD i 0 = z := ⟨_, rfl⟩
        rw [hzv] at cI
        obtain ⟨t, ht⟩ : ∃ t : Nat, min (max z ((a : Int) + 1)) (pb : Int) = (t : Int) := ⟨(min (max z ((a : Int) + 1)) (pb : Int)).toNat, by omega⟩
        have htb : a < t ∧ t ≤ pb := by omega
        have m1 : ∀ ts t w, (Builtin.max_ ts t #[.int .i64 z, .int .i64 ((a : Int) + 1)]).run Tryz.prog w = .ok (.int .i64 (max z ((a : Int) + 1))) w := fun ts t w => run_mxI ts t _ _ w
        have m2 : ∀ ts tt w, (Builtin.min_ ts tt #[.int .i64 (max z ((a : Int) + 1)), .int .i64 (pb : Int)]).run Tryz.prog w = .ok (.int .i64 (t : Int)) w := fun ts tt w => by rw [run_mnI, ht]
        have d0 := qw_cell hz1
        have d1 := qw_cell cI
        have n0 := qw_some wr
        generalize max z ((a : Int) + 1) = mx at *
        clear hcI hzv ht
        go_wp2_with fail
        refine wp_region_quiet_Q (by kernel_rfl) (by kernel_rfl) ?_
        repeat (first | go_big_quiet_step (fail) | quiet_step (fail))
        refine wpQuiet_nil ?_
        intro w3 hw'
        have hq3 := qw_out hw'
        have HSq : StAt w3 P' A H b kc L := hS.next hq3
        have HQq : Q w1 w3 := hq.trans hq3
        clear d0 d1 n0 hw' m1 m2 cI hz0 hz1 hz2
        go_wp2_with fail
        refine Calls.mono (snew_good b h1 h2 _) ?_
        rintro e w4 ⟨PP, AA, HH, kk, rfl, lP, lA, lH, hN, q4⟩
        have HN4 : Hid (StAt w4 PP AA HH b kk []) := hN
        have hz4 := HZ.out w4 (HQq.trans q4)
        have g0 := hz4.1
        have g1 := hz4.2.1
        have g2 := hz4.2.2
        have hrc : Rct pa pb 0 a pa (t - a) := ⟨ha1, by omega, by omega, by omega⟩
        have hCb : ∀ i, (crL pa 0 a pa (t - a) S).getD i 0 < 4294967296 := fun i => by
          rw [crop_rows ha1 HL.out (by omega)]
          rw [List.getD_eq_getElem?_getD, List.getElem?_take]
          split
          · rw [List.getElem?_drop, ← List.getD_eq_getElem?_getD]; exact HB.out _
          · decide
        have hjoin := rows_join (d := t - a) ha1 HL.out (show a + (t - a) ≤ pb by omega)
        rw [show a + (t - a) = t by omega] at hjoin
        have KA := sadd_good PP AA HH b kk [] w4 HN4.out (HP.out w4 (HQq.trans q4)) hrc (pa : Int) (t : Int) (by omega) (by omega) hCb (by decide)
        rw [List.nil_append] at KA
        have hcl : (crL pa 0 a pa (t - a) S).length ≤ 65536 := by
          rw [crop_rows ha1 HL.out (by omega), List.length_take, List.length_drop]; omega
        generalize crL pa 0 a pa (t - a) S = D at *
        have HJ : Hid (S.take (t * pa) = S.take (a * pa) ++ D) := hjoin
        have HS4 : Hid (StAt w4 P' A H b kc L) := HSq.next q4
        have HQ4 : Hid (Q w1 w4) := HQq.trans q4
        have hlt4 := HSq.lt
        have hqs := HQq.1.size
        have hq4s := q4.1.size
        have HKA : Hid _ := KA
        have hlt5 := hN.lt
        clear hN hCb hjoin hrc hz4 q4 KA
        go_wp2_with fail
        refine Calls.mono HKA.out ?_
        rintro e w5 ⟨rfl, hN5, f5⟩
        have HN5 : Hid (StAt w5 PP AA HH b kk D) := hN5
        have HS5 : Hid (StAt w5 P' A H b kc L) := HS4.out.keep f5 ⟨by omega, by omega, by omega⟩ ⟨by omega, by omega, by omega⟩ ⟨by omega, by omega, by omega⟩
        have HQ5 : Hid (Q w1 w5) := f5.q HQ4.out (fun b' hb' => ⟨by omega, by omega, by omega⟩)
        have hf5 := f5.size
        have hLl : L.length ≤ 65536 := by rw [hperm.length_eq, List.length_take]; omega
        have hLl2 : D.length ≤ 1000000 := by omega
        clear hN5 f5 HKA HN4 HS4 HQ4
        cases back
        · have KM := smerge_any P' A H b kc PP AA HH kk L D w5 HS5.out HN5.out (by omega) (by omega) (by omega) (by omega) hLl2
          have HKM : Hid _ := KM
          clear KM
          go_wp2_with fail
          refine Calls.mono HKM.out ?_
          rintro e w6 ⟨rfl, hS6, f6⟩
          have HX6 : Hid (∃ P'' A H kc L, P'' = P' ∧ StAt w6 P'' A H b kc L ∧ L.Perm (S.take (t * pa)) ∧ (w1.heap.size ≤ P'' ∧ w1.heap.size ≤ A ∧ w1.heap.size ≤ H) ∧ Q w1 w6) := by
            refine ⟨P', A, H, kc, L ++ D, rfl, hS6, ?_, hlow, f6.q HQ5.out (fun b' hb' => ⟨by omega, by omega, by omega⟩)⟩
            rw [HJ.out]
            exact hperm.append_right D
          clear hS6 f6 HKM HS5 HN5 HQ5 HJ
          go_wp2_with fail
          go_roundg (C.length + 1 - (i + 1))
          case measure => go_light; omega
          case rel => go_light; exact ⟨P', i + 1, t, rfl, rfl, by simp, by omega, ⟨by omega, by intro h; omega⟩, HX6⟩
        · have KM := smerge_any PP AA HH b kk P' A H kc D L w5 HN5.out HS5.out (by omega) (by omega) (by omega) hLl2 (by omega)
          have HKM : Hid _ := KM
          clear KM
          go_wp2_with fail
          refine Calls.mono HKM.out ?_
          rintro e w6 ⟨rfl, hS6, f6⟩
          have HX6 : Hid (∃ P'' A H kc L, P'' = PP ∧ StAt w6 P'' A H b kc L ∧ L.Perm (S.take (t * pa)) ∧ (w1.heap.size ≤ P'' ∧ w1.heap.size ≤ A ∧ w1.heap.size ≤ H) ∧ Q w1 w6) := by
            refine ⟨PP, AA, HH, kk, D ++ L, rfl, hS6, ?_, ⟨by omega, by omega, by omega⟩, f6.q HQ5.out (fun b' hb' => ⟨by omega, by omega, by omega⟩)⟩
            rw [HJ.out]
            exact List.perm_append_comm.trans (hperm.append_right D)
          clear hS6 f6 HKM HS5 HN5 HQ5 HJ
          go_wp2_with fail
          go_roundg (C.length + 1 - (i + 1))
          case measure => go_light; omega
          case rel => go_light; exact ⟨PP, i + 1, t, rfl, rfl, by simp, by omega, ⟨by omega, by intro h; omega⟩, HX6⟩
      · have k3' : ¬ (i : Int) < (C.length : Int) := by omega
        have htb : a < pb ∧ pb ≤ pb := by omega
        go_wp2_with fail
        refine Calls.mono (snew_good b h1 h2 _) ?_
        rintro e w4 ⟨PP, AA, HH, kk, rfl, lP, lA, lH, hN, q4⟩
        have HN4 : Hid (StAt w4 PP AA HH b kk []) := hN
        have hz4 := HZ.out w4 (hq.trans q4)
        have g0 := hz4.1
        have g1 := hz4.2.1
        have g2 := hz4.2.2
        have hrc : Rct pa pb 0 a pa (pb - a) := ⟨ha1, by omega, by omega, by omega⟩
        have hCb : ∀ i, (crL pa 0 a pa (pb - a) S).getD i 0 < 4294967296 := fun i => by
          rw [crop_rows ha1 HL.out (by omega)]
          rw [List.getD_eq_getElem?_getD, List.getElem?_take]
          split
          · rw [List.getElem?_drop, ← List.getD_eq_getElem?_getD]; exact HB.out _
          · decide
        have hjoin := rows_join (d := pb - a) ha1 HL.out (show a + (pb - a) ≤ pb by omega)
        rw [show a + (pb - a) = pb by omega] at hjoin
        have KA := sadd_good PP AA HH b kk [] w4 HN4.out (HP.out w4 (hq.trans q4)) hrc (pa : Int) (pb : Int) (by omega) (by omega) hCb (by decide)
        rw [List.nil_append] at KA
        have hcl : (crL pa 0 a pa (pb - a) S).length ≤ 65536 := by
          rw [crop_rows ha1 HL.out (by omega), List.length_take, List.length_drop]; omega
        generalize crL pa 0 a pa (pb - a) S = D at *
        have HJ : Hid (S.take (pb * pa) = S.take (a * pa) ++ D) := hjoin
        have HS4 : Hid (StAt w4 P' A H b kc L) := hS.next q4
        have HQ4 : Hid (Q w1 w4) := hq.trans q4
        have hlt4 := hS.lt
        have hqs := hq.1.size
        have hq4s := q4.1.size
        have HKA : Hid _ := KA
        have hlt5 := hN.lt
        clear hN hCb hjoin hrc hz4 q4 KA
        go_wp2_with fail
        refine Calls.mono HKA.out ?_
        rintro e w5 ⟨rfl, hN5, f5⟩
        have HN5 : Hid (StAt w5 PP AA HH b kk D) := hN5
        have HS5 : Hid (StAt w5 P' A H b kc L) := HS4.out.keep f5 ⟨by omega, by omega, by omega⟩ ⟨by omega, by omega, by omega⟩ ⟨by omega, by omega, by omega⟩
        have HQ5 : Hid (Q w1 w5) := f5.q HQ4.out (fun b' hb' => ⟨by omega, by omega, by omega⟩)
        have hf5 := f5.size
        have hLl : L.length ≤ 65536 := by rw [hperm.length_eq, List.length_take]; omega
        have hLl2 : D.length ≤ 1000000 := by omega
        clear hN5 f5 HKA HN4 HS4 HQ4
        cases back
        · have KM := smerge_any P' A H b kc PP AA HH kk L D w5 HS5.out HN5.out (by omega) (by omega) (by omega) (by omega) hLl2
          have HKM : Hid _ := KM
          clear KM
          go_wp2_with fail
          refine Calls.mono HKM.out ?_
          rintro e w6 ⟨rfl, hS6, f6⟩
          have HX6 : Hid (∃ P'' A H kc L, P'' = P' ∧ StAt w6 P'' A H b kc L ∧ L.Perm (S.take (pb * pa)) ∧ (w1.heap.size ≤ P'' ∧ w1.heap.size ≤ A ∧ w1.heap.size ≤ H) ∧ Q w1 w6) := by
            refine ⟨P', A, H, kc, L ++ D, rfl, hS6, ?_, hlow, f6.q HQ5.out (fun b' hb' => ⟨by omega, by omega, by omega⟩)⟩
            rw [HJ.out]
            exact hperm.append_right D
          clear hS6 f6 HKM HS5 HN5 HQ5 HJ
          go_wp2_with fail
          go_roundg (C.length + 1 - (i + 1))
          case measure => go_light; omega
          case rel => go_light; exact ⟨P', i + 1, pb, rfl, rfl, by simp, by omega, ⟨by omega, by intro h; omega⟩, HX6⟩
        · have KM := smerge_any PP AA HH b kk P' A H kc D L w5 HN5.out HS5.out (by omega) (by omega) (by omega) hLl2 (by omega)
          have HKM : Hid _ := KM
          clear KM
          go_wp2_with fail
          refine Calls.mono HKM.out ?_
          rintro e w6 ⟨rfl, hS6, f6⟩
          have HX6 : Hid (∃ P'' A H kc L, P'' = PP ∧ StAt w6 P'' A H b kc L ∧ L.Perm (S.take (pb * pa)) ∧ (w1.heap.size ≤ P'' ∧ w1.heap.size ≤ A ∧ w1.heap.size ≤ H) ∧ Q w1 w6) := by
            refine ⟨PP, AA, HH, kk, D ++ L, rfl, hS6, ?_, ⟨by omega, by omega, by omega⟩, f6.q HQ5.out (fun b' hb' => ⟨by omega, by omega, by omega⟩)⟩
            rw [HJ.out]
            exact List.perm_append_comm.trans (hperm.append_right D)
          clear hS6 f6 HKM HS5 HN5 HQ5 HJ
          go_wp2_with fail
          go_roundg (C.length + 1 - (i + 1))
          case measure => go_light; omega
          case rel => go_light; exact ⟨PP, i + 1, pb, rfl, rfl, by simp, by omega, ⟨by omega, by intro h; omega⟩, HX6⟩
    · have HF : Hid (StAt wr P' A H b kc L ∧ L.Perm S ∧ (w.heap.size ≤ P' ∧ w.heap.size ≤ A ∧ w.heap.size ≤ H) ∧ Q w wr) := by
        have hae : a = pb := by
          rcases Nat.lt_or_ge a pb with k | k
          · exact hab.2 (by omega)
          · omega
        rw [hae, Nat.mul_comm, ← HL.out, List.take_of_length_le (Nat.le_refl _)] at hperm
        have := HQ1.out.1.size
        exact ⟨hS, hperm, ⟨by omega, by omega, by omega⟩, HQ1.out.trans hq⟩
      clear hS hperm hlow HX
      by_cases k1 : i ≤ C.length
      · have k2 : ¬ (a : Int) < (pb : Int) := by omega
        have k1' : (i : Int) ≤ (C.length : Int) := by omega
        go_wp2_with fail
        go_ret
        exact ⟨P', rfl, A, H, kc, L, HF.out.1, HF.out.2.1, by have := HF.out.2.2.1; omega, HF.out.2.2.2⟩
      · have k1' : ¬ (i : Int) ≤ (C.length : Int) := by omega
        go_wp2_with fail
        go_ret
        exact ⟨P', rfl, A, H, kc, L, HF.out.1, HF.out.2.1, by have := HF.out.2.2.1; omega, HF.out.2.2.2⟩
end Go.Proofs.YtieojgblamkgoaaGreatDoor
/- Lists of whole numbers held against one another. -/
namespace Go.Proofs.YtieojgblamkgoaaGreatDoor
open Go.RowKit
set_option linter.unusedVariables false
set_option linter.unusedSimpArgs false

end Go.Proofs.YtieojgblamkgoaaGreatDoor
/- Plain facts: what is told of a list of samples does not hang on their order; a sample and its negative leave it. -/
namespace Go.Proofs.YtieojgblamkgoaaGreatDoor
open Go.RowKit
set_option linter.unusedVariables false
set_option linter.unusedSimpArgs false

end Go.Proofs.YtieojgblamkgoaaGreatDoor
/- stat: Histogram, NaNs; the statements' helper same. -/
namespace Go.Proofs.YtieojgblamkgoaaGreatDoor
open Go.RowKit
set_option linter.unusedVariables false
set_option linter.unusedSimpArgs false

def celI (S : List Int) : List Value := S.map fun x => .int .i64 x
theorem celI_length (S : List Int) : (celI S).length = S.length := by simp [celI]
theorem celI_get {S : List Int} {j : Nat} (h : j < S.length) : (celI S)[j]? = some (.int .i64 (S.getD j 0)) := by
  unfold celI
  rw [List.getElem?_map, List.getD_eq_getElem?_getD, List.getElem?_eq_getElem h]; rfl
set_option maxHeartbeats 2000000 in
set_option maxRecDepth 100000 in
theorem clonei_any (w : World) (g o cap : Nat) (S : List Int) (hI : ∀ i, i < S.length → w.cell? ⟨g, o + i, none⟩ = some (.int .i64 (S.getD i 0))) (hcap : S.length ≤ cap) (h1 : 1 ≤ S.length) (h2 : S.length ≤ 65536) :
    Calls Tryz.prog 73 #[.slice (some ⟨g, o, none⟩) S.length cap] w fun e w' => ∃ G k, e = .returned (.slice (some ⟨G, 0, none⟩) S.length k) ∧ S.length ≤ k ∧ (∀ i, i < S.length → w'.cell? ⟨G, i, none⟩ = some (.int .i64 (S.getD i 0))) ∧ w.heap.size ≤ G ∧ (∀ j, w'.frozen? ⟨G, j, none⟩ = false) ∧ Q w w' := by
  obtain ⟨i, i1, i2, i3, i4⟩ := intInfoV
  have H1 : Hid (∀ j u, (celI S)[j]? = some u → w.cell? ((⟨g, o, none⟩ : Addr).add j) = some u) := by
    intro j u hj
    have hjl : j < S.length := by have := (List.getElem?_eq_some_iff.1 hj).1; rw [celI_length] at this; exact this
    rw [celI_get hjl] at hj
    injection hj with hj
    rw [← hj, addrAdd]
    exact hI j hjl
  have H2 : Hid ((celI S).length = S.length * i.size) := by show _ = _; rw [i2, celI_length, Nat.mul_one]
  have H3 : Hid (S.length * i.bytes ≤ 140737488355328) := by show _ ≤ _; rw [i3]; omega
  have H4 : Hid (Tryz.prog.info? 3 = some i) := i1
  have H5 : Hid (i.zero = some (.int .i64 0)) := i4
  have H6 : Hid (i.size = 1) := i2
  have H7 : Hid ((Value.int .i64 0).cells.size = i.size) := by show _ = _; rw [i2]; rfl
  clear hI i1 i2 i3 i4
  have l1 := fun w => eql_nil Tryz.prog w 60 3 ⟨g, o, none⟩ S.length cap Tryz.underlying60
  go_enter Tryz.func73, Tryz.ntmps73
  go_wp2_with (at_builtin; go_must (refine wpList_room _ rfl (.tmp 5) (.tmp 6) 60 rfl 3 i _ Tryz.underlying60 H4.out H5.out H7.out _ (Or.inr ⟨_, rfl⟩) rfl _ S.length cap (celI S) rfl H2.out (fun j u h => Q.cell ((Q.refl w).cells _ _) (H1.out j u h)) (by omega) (by omega) H3.out ?_; intro cap' w' q1 q2 q3 q4 q5 q6 q7))
  have hz : (w.alloc (.cells #[] 3)).heap.size = w.heap.size + 1 := by simp
  rw [hz] at q4 q5 q6 q7
  go_ret
  refine ⟨w.heap.size + 1, cap', rfl, q2, fun j hj => q5 j _ (celI_get hj), by omega, q7, ((Q.refl w).cells _ _).trans q1⟩
/-- How many have each class, as a list. -/
def hisL (b : Nat) (L : List Nat) : List Int := (List.range (2 ^ b)).map fun j => (clsC b L j : Int)
theorem hisL_len (b : Nat) (L : List Nat) : (hisL b L).length = 2 ^ b := by unfold hisL; simp
theorem hisL_get {b : Nat} {L : List Nat} {j : Nat} (h : j < 2 ^ b) : (hisL b L).getD j 0 = (clsC b L j : Int) := by
  unfold hisL
  rw [List.getD_eq_getElem?_getD, List.getElem?_map, List.getElem?_range h]; rfl
theorem hisL_perm {b : Nat} {L M : List Nat} (h : L.Perm M) : hisL b L = hisL b M := by
  unfold hisL
  congr 1
  funext j
  unfold clsC
  rw [h.countP_eq]
set_option maxHeartbeats 2000000 in
set_option maxRecDepth 100000 in
theorem tclone_any (b H kc : Nat) (L : List Nat) (w : World) (h2 : b ≤ 12) (hT : VR w H (2 ^ b) (fun j => .int .i64 ((clsC b L j : Nat) : Int))) (hcap : 2 ^ b ≤ kc) :
    Calls Tryz.prog 48 #[talV b H kc] w fun e w' => ∃ G k, e = .returned (talV b G k) ∧ 2 ^ b ≤ k ∧ VR w' G (2 ^ b) (fun j => .int .i64 ((clsC b L j : Nat) : Int)) ∧ w.heap.size ≤ G ∧ Q w w' := by
  have hp : 2 ^ b ≤ 2 ^ 12 := Nat.pow_le_pow_right (by decide) h2
  have hp1 : 1 ≤ 2 ^ b := Nat.one_le_two_pow
  obtain ⟨w1, hw1⟩ : ∃ w1, (w.alloc (.cells #[.int .i64 (b : Int), .slice (some ⟨H, 0, none⟩) (2 ^ b) kc] 72)).alloc (.cells #[.int .i64 0, .slice none 0 0] 72) = w1 := ⟨_, rfl⟩
  obtain ⟨A, hA⟩ : ∃ A, w.heap.size = A := ⟨_, rfl⟩
  have q1 : Q w w1 := by rw [← hw1]; exact ((Q.refl w).cells _ _).cells _ _
  have s1 : w1.heap.size = A + 2 := by rw [← hw1, ← hA]; simp [go_sem]
  have z0 : w1.cell? ⟨A, 0, none⟩ = some (.int .i64 (b : Int)) := by rw [← hw1, ← hA]; simp [go_sem]
  have z1 : w1.cell? ⟨A, 1, none⟩ = some (.slice (some ⟨H, 0, none⟩) (2 ^ b) kc) := by rw [← hw1, ← hA]; simp [go_sem]
  have r0 : w1.cell? ⟨A + 1, 0, none⟩ = some (.int .i64 0) := by rw [← hw1, ← hA]; simp [go_sem]
  have r1 : w1.cell? ⟨A + 1, 1, none⟩ = some (.slice none 0 0) := by rw [← hw1, ← hA]; simp [go_sem]
  have rf : ∀ j, w1.frozen? ⟨A + 1, j, none⟩ = false := fun j => by rw [← hw1, ← hA]; simp [go_sem]
  have HC : Hid (∀ n : QW w1, Calls Tryz.prog 73 #[.slice (some ⟨H, 0, none⟩) (2 ^ b) kc] n.x fun e w' => ∃ v, e = .returned v ∧ ((∃ G k, v = .slice (some ⟨G, 0, none⟩) (2 ^ b) k ∧ 2 ^ b ≤ k ∧ VR w' G (2 ^ b) (fun j => .int .i64 ((clsC b L j : Nat) : Int)) ∧ n.x.heap.size ≤ G) ∧ Q n.x w')) := fun n => by
    have := clonei_any n.x H 0 kc (hisL b L) (fun i hi => by rw [hisL_len] at hi; rw [Nat.zero_add, hisL_get hi]; exact (hT.next (q1.trans n.q)).cell i hi) (by rw [hisL_len]; exact hcap) (by rw [hisL_len]; exact hp1) (by rw [hisL_len]; omega)
    rw [hisL_len] at this
    refine this.mono ?_
    rintro e w' ⟨G, k, rfl, hk, hc, hG, hf, hq⟩
    exact ⟨_, rfl, ⟨G, k, rfl, hk, ⟨fun i hi => by rw [hc i hi, hisL_get hi], hf⟩, hG⟩, hq⟩
  have HQ1 : Hid (Q w w1) := q1
  clear hT q1
  unfold talV
  generalize 2 ^ b = N at *
  go_enter Tryz.func48, Tryz.ntmps48
  go_wp2_with fail
  clear hw1
  have d0 := qw_cell z0
  have d1 := qw_cell z1
  have n0 := qw_some w1
  refine wp_region_mk [0, 1, 2, 3] [[4, 5, 6]] 3 _ (by kernel_rfl) (by kernel_rfl) rfl (by kernel_rfl) ?_
  simp only [List.filterMap_cons, List.filterMap_nil, List.getElem?_cons_zero, List.getElem?_cons_succ]
  repeat (first | go_big_quiet_step (fail) | quiet_step (fail))
  refine wpQuiet_nil ?_
  intro x hx
  clear d0 d1 n0
  have hxs := hx.1.size
  have l1 := enters_of Tryz.func73 (by kernel_rfl) rfl
  refine tree_call 4 rfl rfl (run_fn 73 #[.tmp 6] _ rfl l1 (vs := #[.slice (some ⟨H, 0, none⟩) N kc]) (by kernel_rfl)) (G := fun v x' => (∃ G k, v = .slice (some ⟨G, 0, none⟩) N k ∧ N ≤ k ∧ VR x' G N (fun j => .int .i64 ((clsC b L j : Nat) : Int)) ∧ x.heap.size ≤ G) ∧ Q x x') (HC.out ⟨x, hx⟩) ?_
  rintro u x2 ⟨⟨G, k, rfl, hk, hv, hG⟩, hq⟩
  have hx2 : Q w1 x2 := hx.trans hq
  refine ⟨hx2, ?_⟩
  refine tree_run 5 rfl rfl (v := .agg #[.int .i64 (b : Int), .slice (some ⟨G, 0, none⟩) N k]) (x' := x2) (by simp [execOp, go_sem, Act.eval, Act.put]) hx2 ?_
  have r0 := hx2.cell r0
  have r1 := hx2.cell r1
  have rf : ∀ j, x2.frozen? ⟨A + 1, j, none⟩ = false := fun j => by rw [hx2.2]; exact rf j
  refine tree_skipF 6 rfl rfl rfl (x' := (x2.setCell ⟨A + 1, 0, none⟩ (.int .i64 (b : Int))).setCell ⟨A + 1, 1, none⟩ (.slice (some ⟨G, 0, none⟩) N k)) (by simp [execOp, go_sem, Act.eval, Act.put, r0, r1, rf]) ?_
  refine tree_nil ?_
  simp only [Act.put, List.setIfInBounds_toArray, List.set_cons_succ, List.set_cons_zero]
  have hAG : A + 1 ≠ G := by omega
  have hv' := (hv.other (p := ⟨A + 1, 0, none⟩) hAG (.int .i64 (b : Int))).other (p := ⟨A + 1, 1, none⟩) hAG (.slice (some ⟨G, 0, none⟩) N k)
  have hqe : Q w ((x2.setCell ⟨A + 1, 0, none⟩ (.int .i64 (b : Int))).setCell ⟨A + 1, 1, none⟩ (.slice (some ⟨G, 0, none⟩) N k)) := ((HQ1.out.trans hx2).set (by show w.heap.size ≤ A + 1; omega) _).set (by show w.heap.size ≤ A + 1; omega) _
  go_wp2_with fail
  refine bodyPost_ret (v := .agg #[.int .i64 (b : Int), .slice (some ⟨G, 0, none⟩) N k]) (by simp [results, Tryz.results48, go_sem, r0, r1]) rfl ⟨G, k, rfl, hk, hv', by omega, hqe⟩
end Go.Proofs.YtieojgblamkgoaaGreatDoor
/- The drawn region of the statements' helper same. (gen_tyu.py) -/
namespace Go.Proofs.YtieojgblamkgoaaGreatDoor
open Go.RowKit
set_option linter.unusedVariables false
set_option linter.unusedSimpArgs false
set_option maxRecDepth 100000

section
variable {P : Program} {ρ : Operand → Value} {x : World} {d : Option Tmp} {ty : TypeId} {ps : String} {af : Array Edge} {g : Option (Nat × Bool)}
end
end Go.Proofs.YtieojgblamkgoaaGreatDoor
/- stat: Histogram, NaNs; the statements' helper same. -/
namespace Go.Proofs.YtieojgblamkgoaaGreatDoor
open Go.RowKit
set_option linter.unusedVariables false
set_option linter.unusedSimpArgs false

set_option maxHeartbeats 1000000 in
set_option maxRecDepth 100000 in
theorem snans_any (P A H b kc : Nat) (L : List Nat) (w : World) (h : StAt w P A H b kc L) : Calls Tryz.prog 33 #[.pointer (some ⟨P, 0, none⟩)] w fun e w' => e = .returned (.int .i64 (nanC L : Nat)) ∧ w' = w := by
  have p5 := h.p5
  clear h
  go_enter Tryz.func33, Tryz.ntmps33
  go_wp2_with fail
  go_ret
  exact ⟨rfl, rfl⟩
set_option maxHeartbeats 1000000 in
set_option maxRecDepth 100000 in
theorem shist_any (P A H b kc : Nat) (L : List Nat) (w : World) (h : StAt w P A H b kc L) : Calls Tryz.prog 30 #[.pointer (some ⟨P, 0, none⟩)] w fun e w' => ∃ v, e = .returned v ∧ ISl w' v (hisL b L) ∧ Q w w' := by
  have p1 := h.p1
  have p2 := h.p2
  have K := tclone_any b H kc L w h.b2 h.tal h.cap
  have HK : Hid _ := K
  clear h K
  unfold talV at HK
  go_enter Tryz.func30, Tryz.ntmps30
  go_wp2_with fail
  refine Calls.mono HK.out ?_
  rintro e w2 ⟨G, k, rfl, hk, hv, hG, hq⟩
  have HI : Hid (ISl w2 (.slice (some ⟨G, 0, none⟩) (2 ^ b) k) (hisL b L)) := by
    refine Or.inl ⟨G, 0, k, by rw [hisL_len], fun i hi => ?_⟩
    rw [hisL_len] at hi
    rw [Nat.zero_add, hv.cell i hi, hisL_get hi]
  have HQ : Hid (Q w w2) := hq
  have hf : ∀ w, (Instr.field 72 (.agg #[.int .i64 (b : Int), .slice (some ⟨G, 0, none⟩) (2 ^ b) k]) 1).run Tryz.prog w = .ok (.slice (some ⟨G, 0, none⟩) (2 ^ b) k) w := fun w => by rfl
  clear hv hq HK
  go_wp2_with fail
  go_ret
  exact ⟨_, rfl, HI.out, HQ.out⟩
theorem lowK_perm {L M : List Nat} (h : L.Perm M) : lowK L = lowK M := by
  unfold lowK numL
  refine (h.filter _).foldl_eq' ?_ _
  intro x _ y _ z
  omega
theorem topK_perm {L M : List Nat} (h : L.Perm M) : topK L = topK M := by
  unfold topK numL
  refine (h.filter _).foldl_eq' ?_ _
  intro x _ y _ z
  omega
theorem nanC_perm {L M : List Nat} (h : L.Perm M) : nanC L = nanC M := by unfold nanC; exact h.countP_eq _
theorem ends_perm {L M : List Nat} (h : L.Perm M) : endsV L = endsV M := by
  unfold endsV
  rw [lowK_perm h, topK_perm h]
  have hl : (numL L).length = (numL M).length := by unfold numL; exact (h.filter _).length_eq
  by_cases e : numL L = []
  · rw [if_pos e, if_pos (List.length_eq_zero_iff.1 (by rw [← hl, e]; rfl))]
  · rw [if_neg e, if_neg (fun k => e (List.length_eq_zero_iff.1 (by rw [hl, k]; rfl)))]
end Go.Proofs.YtieojgblamkgoaaGreatDoor
/- Sums of products with weights: the program's, whatever the products are. -/
namespace Go.Proofs.YtieojgblamkgoaaGreatDoor
open Go.RowKit
set_option linter.unusedVariables false
set_option linter.unusedSimpArgs false

section
variable {P : Program} {ρ : Operand → Value} {x : World} {d : Option Tmp} {ty : TypeId} {ps : String} {af : Array Edge} {g : Option (Nat × Bool)}
end
end Go.Proofs.YtieojgblamkgoaaGreatDoor
/- Sums of products with weights: the program's. -/
namespace Go.Proofs.YtieojgblamkgoaaGreatDoor
open Go.RowKit
set_option linter.unusedVariables false
set_option linter.unusedSimpArgs false

end Go.Proofs.YtieojgblamkgoaaGreatDoor
/- One sample with whole weights, summed in binary64 (as in SWhB, over the program's side alone). -/
namespace Go.Proofs.YtieojgblamkgoaaGreatDoor
open Go.RowKit
set_option linter.unusedVariables false
set_option linter.unusedSimpArgs false

theorem read_weightq {y : Int} (h0 : y ≤ 268435456) (h1 : -268435456 ≤ y) : ∃ j : Nat, ∃ p : Int, Ieee.double.read (floatOfInt .f64 y) = .number (decide (y < 0)) (y.natAbs * 2 ^ j) p ∧ (y ≠ 0 → p = -(j : Int)) := by
  by_cases hy : y = 0
  · subst hy
    exact ⟨0, -1074, by decide +kernel, fun h => absurd rfl h⟩
  · have hne : y.natAbs ≠ 0 := by omega
    have a0 := Nat.log2_self_le hne
    have a1 : y.natAbs < 2 ^ (y.natAbs.log2 + 1) := Nat.lt_log2_self
    have aL : y.natAbs.log2 ≤ 52 := by
      have := (Nat.log2_lt hne).2 (Nat.lt_of_le_of_lt (show y.natAbs ≤ 268435456 by omega) (show 268435456 < 2 ^ 53 by decide))
      omega
    have e1 : floatOfInt .f64 y = Ieee.double.nearest (decide (y < 0)) y.natAbs 0 := rfl
    generalize y.natAbs.log2 = M at *
    have e2 := nearest_exact (neg := decide (y < 0)) (k := 0) (p := 0) a0 a1 aL (by omega) (by omega)
    rw [Nat.pow_zero, Nat.mul_one] at e2
    have b1 : y.natAbs * 2 ^ (52 - M) < 9007199254740992 := by
      have := Nat.mul_lt_mul_of_pos_right a1 (Nat.two_pow_pos (52 - M))
      rw [← Nat.pow_add, show M + 1 + (52 - M) = 53 by omega] at this
      exact this
    have b0 : 4503599627370496 ≤ y.natAbs * 2 ^ (52 - M) := by
      have := Nat.mul_le_mul_right (2 ^ (52 - M)) a0
      rw [← Nat.pow_add, show M + (52 - M) = 52 by omega] at this
      exact this
    refine ⟨52 - M, 0 + ((0 : Nat) : Int) + M - 52, ?_, fun _ => by omega⟩
    rw [e1, e2, read_wd b0 b1 (by omega) (by omega)]
theorem signed_eqq (s : Bool) (m k : Nat) : Ieee.signed s m k = if s = true then -((m * 2 ^ k : Nat) : Int) else ((m * 2 ^ k : Nat) : Int) := by
  unfold Ieee.signed; rw [Nat.shiftLeft_eq]

theorem sval_signed64q (a : Nat) : sval64 a = Ieee.signed (sgn64 a) (mag64 (rung64 a)) (plc64 (rung64 a)) := by
  unfold sval64 val64; rw [signed_eqq]
theorem told64_numq (s : Bool) (N : Nat) (b : Int) : told64 (some (.number s N b)) = Ieee.double.word s (rungOf Ieee.double N b) := nearest_rung _ _ _ _
end Go.Proofs.YtieojgblamkgoaaGreatDoor
/- What package arith's Floor, Nearest and Sqrt return, in the model's own words of floats; what was in memory stays as it was. -/
namespace Go.Proofs.YtieojgblamkgoaaGreatDoor
open Go.RowKit

end Go.Proofs.YtieojgblamkgoaaGreatDoor
/- Arithmetic of binary64 whatever comes of it; what space's number, sample, Log and Exp return. -/
namespace Go.Proofs.YtieojgblamkgoaaGreatDoor
open Go.RowKit
set_option linter.unusedVariables false

def opD : BinOp → Ieee.Datum → Ieee.Datum → Option Ieee.Datum
  | .add, a, b => a.sum b
  | .sub, a, b => a.sum b.opposite
  | .mul, a, b => a.product b
  | .quo, a, b => a.quotient 54 b
  | _, _, _ => none
def narW (x : Nat) : Nat := toldD (some (Ieee.double.read x))
end Go.Proofs.YtieojgblamkgoaaGreatDoor
/- Operations of binary64, of NaNs one: plain. -/
namespace Go.Proofs.YtieojgblamkgoaaGreatDoor
open Go.RowKit
set_option linter.unusedVariables false

abbrev isA (op : BinOp) : Prop := op = .add ∨ op = .sub ∨ op = .mul ∨ op = .quo
def opT (op : BinOp) (x y : Nat) : Nat := told64 (opD op (Ieee.double.read x) (Ieee.double.read y))
theorem hA1 : isA .add := Or.inl rfl
theorem hA3 : isA .mul := Or.inr (Or.inr (Or.inl rfl))
end Go.Proofs.YtieojgblamkgoaaGreatDoor
/- Plain facts: a number rounded to binary32, as a signed rung. -/
namespace Go.Proofs.YtieojgblamkgoaaGreatDoor
open Go.RowKit
set_option linter.unusedVariables false
set_option linter.unusedSimpArgs false

/-- A number in units of 2^-1074, rounded to binary32: the signed rung. -/
def RS (Z : Int) : Int := if Z < 0 then -(rungOf Ieee.single Z.natAbs (-1074) : Int) else (rungOf Ieee.single Z.natAbs (-1074) : Int)
theorem RS_mono {Y Z : Int} (h : Y ≤ Z) : RS Y ≤ RS Z := by
  unfold RS
  by_cases hy : Y < 0
  · rw [if_pos hy]
    by_cases hz : Z < 0
    · rw [if_pos hz]
      have := rung_mono Ieee.single (-1074) (show Z.natAbs ≤ Y.natAbs by omega)
      omega
    · rw [if_neg hz]; omega
  · rw [if_neg hy, if_neg (by omega)]
    have := rung_mono Ieee.single (-1074) (show Y.natAbs ≤ Z.natAbs by omega)
    omega
theorem srung_told {σ : Bool} {Z : Int} {N : Nat} {b : Int} (hσ : Z ≠ 0 → σ = decide (Z < 0)) (hN : rungOf Ieee.single N b = rungOf Ieee.single Z.natAbs (-1074)) : srung32 (toldD (some (.number σ N b))) = RS Z ∧ nanN (toldD (some (.number σ N b))) = false := by
  rw [toldD_num, hN]
  have hle : rungOf Ieee.single Z.natAbs (-1074) ≤ 2139095040 := by have := rungOf_le Ieee.single Z.natAbs (-1074); rw [inf32] at this; exact this
  obtain ⟨a, b'⟩ := sgn_word32 σ (r := rungOf Ieee.single Z.natAbs (-1074)) (by omega)
  refine ⟨?_, nanN_word hle⟩
  unfold srung32 RS
  rw [a, b']
  by_cases h : Z = 0
  · subst h
    rw [show (0 : Int).natAbs = 0 from rfl, rungOf_zero]
    cases σ <;> rfl
  · rw [hσ h]
    by_cases k : Z < 0
    · rw [decide_eq_true k, if_pos rfl, if_pos k]
    · rw [decide_eq_false k, if_neg (by decide), if_neg k]
end Go.Proofs.YtieojgblamkgoaaGreatDoor
