/- Layer 15's document: One and Step. (gen_myc.py) -/
import Derived.Test.YtkgojnjlfkijiaaGreatG6488b472
namespace Go.Proofs.YtkgojnjlfkijiaaGreat
open Go.RowKit
set_option linter.unusedVariables false
set_option linter.unusedSimpArgs false

theorem mxV_1 (s sa d da : Nat) : mxV 1 s sa d da = narW (opT .add (wideW s) (opT .mul (wideW d) (rsT (wideW sa)))) := by unfold mxV; rw [show mxT 1 (wideW s) (wideW sa) (wideW d) (wideW da) = opT .add (wideW s) (opT .mul (wideW d) (rsT (wideW sa))) from rfl]
theorem mxV_2 (s sa d da : Nat) : mxV 2 s sa d da = narW (opT .mul (wideW s) (wideW da)) := by unfold mxV; rw [show mxT 2 (wideW s) (wideW sa) (wideW d) (wideW da) = opT .mul (wideW s) (wideW da) from rfl]
theorem mxV_3 (s sa d da : Nat) : mxV 3 s sa d da = narW (opT .mul (wideW s) (rsT (wideW da))) := by unfold mxV; rw [show mxT 3 (wideW s) (wideW sa) (wideW d) (wideW da) = opT .mul (wideW s) (rsT (wideW da)) from rfl]
theorem mxV_4 (s sa d da : Nat) : mxV 4 s sa d da = narW (opT .add (opT .mul (wideW s) (wideW da)) (opT .mul (wideW d) (rsT (wideW sa)))) := by unfold mxV; rw [show mxT 4 (wideW s) (wideW sa) (wideW d) (wideW da) = opT .add (opT .mul (wideW s) (wideW da)) (opT .mul (wideW d) (rsT (wideW sa))) from rfl]
theorem mxV_5 (s sa d da : Nat) : mxV 5 s sa d da = narW (opT .add (opT .mul (wideW s) (rsT (wideW da))) (opT .mul (wideW d) (rsT (wideW sa)))) := by unfold mxV; rw [show mxT 5 (wideW s) (wideW sa) (wideW d) (wideW da) = opT .add (opT .mul (wideW s) (rsT (wideW da))) (opT .mul (wideW d) (rsT (wideW sa))) from rfl]
theorem mxV_6 (s sa d da : Nat) : mxV 6 s sa d da = narW (opT .add (wideW s) (wideW d)) := by unfold mxV; rw [show mxT 6 (wideW s) (wideW sa) (wideW d) (wideW da) = opT .add (wideW s) (wideW d) from rfl]
theorem opT_lt (op : BinOp) (x y : Nat) : opT op x y < 18446744073709551616 := by
  unfold opT told64
  split
  · decide
  · decide
  · exact write64_lt _
theorem hidn {p : Prop} (h : p) : Hid p := h
theorem calls_u2 {P : Program} {f : FuncId} {args : Array Value} {w : World} {v : Value} {R : World → Prop} (h : Calls P f args w fun e w' => e = .returned v ∧ R w') : Calls P f args w fun e w' => ∃ u, e = .returned u ∧ (u = v ∧ R w') :=
  h.mono fun e w' ⟨h1, h2⟩ => ⟨v, h1, rfl, h2⟩
set_option maxHeartbeats 4000000 in
set_option maxRecDepth 100000 in
theorem rone_1 (s sa d da : Nat) (hs : s < 4294967296) (ha : sa < 4294967296) (hd : d < 4294967296) (hb : da < 4294967296) (w : World) :
    Calls Tryz.prog 8 #[.int .i64 1, .int .u32 (s : Int), .int .u32 (sa : Int), .int .u32 (d : Int), .int .u32 (da : Int)] w fun e w' => e = .returned (.tuple #[.int .u32 (mxV 1 s sa d da : Nat), .int .i64 0]) ∧ Q w w' := by
  have HS : Hid (s < 4294967296 ∧ sa < 4294967296 ∧ d < 4294967296 ∧ da < 4294967296) := ⟨hs, ha, hd, hb⟩
  clear hs ha hd hb
  rw [mxV_1]
  have ennum := enters_of Tryz.func29 (by kernel_rfl) rfl
  have enrest := enters_of Tryz.func33 (by kernel_rfl) rfl
  have entimes := enters_of Tryz.func32 (by kernel_rfl) rfl
  have enplus := enters_of Tryz.func31 (by kernel_rfl) rfl
  have entold := enters_of Tryz.func30 (by kernel_rfl) rfl
  go_enter Tryz.func8, Tryz.ntmps8
  go_wp2_with fail
  refine (num15_any s HS.out.1 _).mono ?_
  rintro e' w1 ⟨v, rfl, h1, q1⟩
  obtain ⟨k1, s1, p1, L1, C1, e1, m1, rfl⟩ := NumAt.made h1
  have H1 : Hid (Dn w1 _ (wideW s)) := h1
  have HQ : Hid (Q w w1) := q1
  clear h1 q1
  go_wp2_with fail
  refine (num15_any sa HS.out.2.1 _).mono ?_
  rintro e' w2 ⟨v, rfl, h2, q2⟩
  obtain ⟨k2, s2, p2, L2, C2, e2, m2, rfl⟩ := NumAt.made h2
  have H2 : Hid (Dn w2 _ (wideW sa)) := h2
  have H1 : Hid (Dn w2 _ (wideW s)) := H1.out.next q2
  have HQ : Hid (Q w w2) := HQ.out.trans q2
  clear h2 q2
  go_wp2_with fail
  refine (num15_any d HS.out.2.2.1 _).mono ?_
  rintro e' w3 ⟨v, rfl, h3, q3⟩
  obtain ⟨k3, s3, p3, L3, C3, e3, m3, rfl⟩ := NumAt.made h3
  have H3 : Hid (Dn w3 _ (wideW d)) := h3
  have H1 : Hid (Dn w3 _ (wideW s)) := H1.out.next q3
  have H2 : Hid (Dn w3 _ (wideW sa)) := H2.out.next q3
  have HQ : Hid (Q w w3) := HQ.out.trans q3
  clear h3 q3
  go_wp2_with fail
  refine (num15_any da HS.out.2.2.2 _).mono ?_
  rintro e' w4 ⟨v, rfl, h4, q4⟩
  obtain ⟨k4, s4, p4, L4, C4, e4, m4, rfl⟩ := NumAt.made h4
  have H4 : Hid (Dn w4 _ (wideW da)) := h4
  have H1 : Hid (Dn w4 _ (wideW s)) := H1.out.next q4
  have H2 : Hid (Dn w4 _ (wideW sa)) := H2.out.next q4
  have H3 : Hid (Dn w4 _ (wideW d)) := H3.out.next q4
  have HQ : Hid (Q w w4) := HQ.out.trans q4
  clear h4 q4
  go_wp2_with fail
  have qz : Q w4 ((((w4.alloc (.cells #[.int .i64 k1, .bool s1, .slice p1 L1 C1, .int .i64 e1, .bool m1] 63)).alloc (.cells #[.int .i64 k2, .bool s2, .slice p2 L2 C2, .int .i64 e2, .bool m2] 63)).alloc (.cells #[.int .i64 k3, .bool s3, .slice p3 L3 C3, .int .i64 e3, .bool m3] 63)).alloc (.cells #[.int .i64 k4, .bool s4, .slice p4 L4 C4, .int .i64 e4, .bool m4] 63)) := ((((Q.refl w4).cells _ _).cells _ _).cells _ _).cells _ _
  have f1_0 : ((((w4.alloc (.cells #[.int .i64 k1, .bool s1, .slice p1 L1 C1, .int .i64 e1, .bool m1] 63)).alloc (.cells #[.int .i64 k2, .bool s2, .slice p2 L2 C2, .int .i64 e2, .bool m2] 63)).alloc (.cells #[.int .i64 k3, .bool s3, .slice p3 L3 C3, .int .i64 e3, .bool m3] 63)).alloc (.cells #[.int .i64 k4, .bool s4, .slice p4 L4 C4, .int .i64 e4, .bool m4] 63)).cell? ⟨w4.heap.size, 0, none⟩ = some (.int .i64 k1) := by simp [go_sem]
  have f1_1 : ((((w4.alloc (.cells #[.int .i64 k1, .bool s1, .slice p1 L1 C1, .int .i64 e1, .bool m1] 63)).alloc (.cells #[.int .i64 k2, .bool s2, .slice p2 L2 C2, .int .i64 e2, .bool m2] 63)).alloc (.cells #[.int .i64 k3, .bool s3, .slice p3 L3 C3, .int .i64 e3, .bool m3] 63)).alloc (.cells #[.int .i64 k4, .bool s4, .slice p4 L4 C4, .int .i64 e4, .bool m4] 63)).cell? ⟨w4.heap.size, 1, none⟩ = some (.bool s1) := by simp [go_sem]
  have f1_2 : ((((w4.alloc (.cells #[.int .i64 k1, .bool s1, .slice p1 L1 C1, .int .i64 e1, .bool m1] 63)).alloc (.cells #[.int .i64 k2, .bool s2, .slice p2 L2 C2, .int .i64 e2, .bool m2] 63)).alloc (.cells #[.int .i64 k3, .bool s3, .slice p3 L3 C3, .int .i64 e3, .bool m3] 63)).alloc (.cells #[.int .i64 k4, .bool s4, .slice p4 L4 C4, .int .i64 e4, .bool m4] 63)).cell? ⟨w4.heap.size, 2, none⟩ = some (.slice p1 L1 C1) := by simp [go_sem]
  have f1_3 : ((((w4.alloc (.cells #[.int .i64 k1, .bool s1, .slice p1 L1 C1, .int .i64 e1, .bool m1] 63)).alloc (.cells #[.int .i64 k2, .bool s2, .slice p2 L2 C2, .int .i64 e2, .bool m2] 63)).alloc (.cells #[.int .i64 k3, .bool s3, .slice p3 L3 C3, .int .i64 e3, .bool m3] 63)).alloc (.cells #[.int .i64 k4, .bool s4, .slice p4 L4 C4, .int .i64 e4, .bool m4] 63)).cell? ⟨w4.heap.size, 3, none⟩ = some (.int .i64 e1) := by simp [go_sem]
  have f1_4 : ((((w4.alloc (.cells #[.int .i64 k1, .bool s1, .slice p1 L1 C1, .int .i64 e1, .bool m1] 63)).alloc (.cells #[.int .i64 k2, .bool s2, .slice p2 L2 C2, .int .i64 e2, .bool m2] 63)).alloc (.cells #[.int .i64 k3, .bool s3, .slice p3 L3 C3, .int .i64 e3, .bool m3] 63)).alloc (.cells #[.int .i64 k4, .bool s4, .slice p4 L4 C4, .int .i64 e4, .bool m4] 63)).cell? ⟨w4.heap.size, 4, none⟩ = some (.bool m1) := by simp [go_sem]
  have f2_0 : ((((w4.alloc (.cells #[.int .i64 k1, .bool s1, .slice p1 L1 C1, .int .i64 e1, .bool m1] 63)).alloc (.cells #[.int .i64 k2, .bool s2, .slice p2 L2 C2, .int .i64 e2, .bool m2] 63)).alloc (.cells #[.int .i64 k3, .bool s3, .slice p3 L3 C3, .int .i64 e3, .bool m3] 63)).alloc (.cells #[.int .i64 k4, .bool s4, .slice p4 L4 C4, .int .i64 e4, .bool m4] 63)).cell? ⟨w4.heap.size + 1, 0, none⟩ = some (.int .i64 k2) := by simp [go_sem]
  have f2_1 : ((((w4.alloc (.cells #[.int .i64 k1, .bool s1, .slice p1 L1 C1, .int .i64 e1, .bool m1] 63)).alloc (.cells #[.int .i64 k2, .bool s2, .slice p2 L2 C2, .int .i64 e2, .bool m2] 63)).alloc (.cells #[.int .i64 k3, .bool s3, .slice p3 L3 C3, .int .i64 e3, .bool m3] 63)).alloc (.cells #[.int .i64 k4, .bool s4, .slice p4 L4 C4, .int .i64 e4, .bool m4] 63)).cell? ⟨w4.heap.size + 1, 1, none⟩ = some (.bool s2) := by simp [go_sem]
  have f2_2 : ((((w4.alloc (.cells #[.int .i64 k1, .bool s1, .slice p1 L1 C1, .int .i64 e1, .bool m1] 63)).alloc (.cells #[.int .i64 k2, .bool s2, .slice p2 L2 C2, .int .i64 e2, .bool m2] 63)).alloc (.cells #[.int .i64 k3, .bool s3, .slice p3 L3 C3, .int .i64 e3, .bool m3] 63)).alloc (.cells #[.int .i64 k4, .bool s4, .slice p4 L4 C4, .int .i64 e4, .bool m4] 63)).cell? ⟨w4.heap.size + 1, 2, none⟩ = some (.slice p2 L2 C2) := by simp [go_sem]
  have f2_3 : ((((w4.alloc (.cells #[.int .i64 k1, .bool s1, .slice p1 L1 C1, .int .i64 e1, .bool m1] 63)).alloc (.cells #[.int .i64 k2, .bool s2, .slice p2 L2 C2, .int .i64 e2, .bool m2] 63)).alloc (.cells #[.int .i64 k3, .bool s3, .slice p3 L3 C3, .int .i64 e3, .bool m3] 63)).alloc (.cells #[.int .i64 k4, .bool s4, .slice p4 L4 C4, .int .i64 e4, .bool m4] 63)).cell? ⟨w4.heap.size + 1, 3, none⟩ = some (.int .i64 e2) := by simp [go_sem]
  have f2_4 : ((((w4.alloc (.cells #[.int .i64 k1, .bool s1, .slice p1 L1 C1, .int .i64 e1, .bool m1] 63)).alloc (.cells #[.int .i64 k2, .bool s2, .slice p2 L2 C2, .int .i64 e2, .bool m2] 63)).alloc (.cells #[.int .i64 k3, .bool s3, .slice p3 L3 C3, .int .i64 e3, .bool m3] 63)).alloc (.cells #[.int .i64 k4, .bool s4, .slice p4 L4 C4, .int .i64 e4, .bool m4] 63)).cell? ⟨w4.heap.size + 1, 4, none⟩ = some (.bool m2) := by simp [go_sem]
  have f3_0 : ((((w4.alloc (.cells #[.int .i64 k1, .bool s1, .slice p1 L1 C1, .int .i64 e1, .bool m1] 63)).alloc (.cells #[.int .i64 k2, .bool s2, .slice p2 L2 C2, .int .i64 e2, .bool m2] 63)).alloc (.cells #[.int .i64 k3, .bool s3, .slice p3 L3 C3, .int .i64 e3, .bool m3] 63)).alloc (.cells #[.int .i64 k4, .bool s4, .slice p4 L4 C4, .int .i64 e4, .bool m4] 63)).cell? ⟨w4.heap.size + 1 + 1, 0, none⟩ = some (.int .i64 k3) := by simp [go_sem]
  have f3_1 : ((((w4.alloc (.cells #[.int .i64 k1, .bool s1, .slice p1 L1 C1, .int .i64 e1, .bool m1] 63)).alloc (.cells #[.int .i64 k2, .bool s2, .slice p2 L2 C2, .int .i64 e2, .bool m2] 63)).alloc (.cells #[.int .i64 k3, .bool s3, .slice p3 L3 C3, .int .i64 e3, .bool m3] 63)).alloc (.cells #[.int .i64 k4, .bool s4, .slice p4 L4 C4, .int .i64 e4, .bool m4] 63)).cell? ⟨w4.heap.size + 1 + 1, 1, none⟩ = some (.bool s3) := by simp [go_sem]
  have f3_2 : ((((w4.alloc (.cells #[.int .i64 k1, .bool s1, .slice p1 L1 C1, .int .i64 e1, .bool m1] 63)).alloc (.cells #[.int .i64 k2, .bool s2, .slice p2 L2 C2, .int .i64 e2, .bool m2] 63)).alloc (.cells #[.int .i64 k3, .bool s3, .slice p3 L3 C3, .int .i64 e3, .bool m3] 63)).alloc (.cells #[.int .i64 k4, .bool s4, .slice p4 L4 C4, .int .i64 e4, .bool m4] 63)).cell? ⟨w4.heap.size + 1 + 1, 2, none⟩ = some (.slice p3 L3 C3) := by simp [go_sem]
  have f3_3 : ((((w4.alloc (.cells #[.int .i64 k1, .bool s1, .slice p1 L1 C1, .int .i64 e1, .bool m1] 63)).alloc (.cells #[.int .i64 k2, .bool s2, .slice p2 L2 C2, .int .i64 e2, .bool m2] 63)).alloc (.cells #[.int .i64 k3, .bool s3, .slice p3 L3 C3, .int .i64 e3, .bool m3] 63)).alloc (.cells #[.int .i64 k4, .bool s4, .slice p4 L4 C4, .int .i64 e4, .bool m4] 63)).cell? ⟨w4.heap.size + 1 + 1, 3, none⟩ = some (.int .i64 e3) := by simp [go_sem]
  have f3_4 : ((((w4.alloc (.cells #[.int .i64 k1, .bool s1, .slice p1 L1 C1, .int .i64 e1, .bool m1] 63)).alloc (.cells #[.int .i64 k2, .bool s2, .slice p2 L2 C2, .int .i64 e2, .bool m2] 63)).alloc (.cells #[.int .i64 k3, .bool s3, .slice p3 L3 C3, .int .i64 e3, .bool m3] 63)).alloc (.cells #[.int .i64 k4, .bool s4, .slice p4 L4 C4, .int .i64 e4, .bool m4] 63)).cell? ⟨w4.heap.size + 1 + 1, 4, none⟩ = some (.bool m3) := by simp [go_sem]
  have H1 : Hid (Dn ((((w4.alloc (.cells #[.int .i64 k1, .bool s1, .slice p1 L1 C1, .int .i64 e1, .bool m1] 63)).alloc (.cells #[.int .i64 k2, .bool s2, .slice p2 L2 C2, .int .i64 e2, .bool m2] 63)).alloc (.cells #[.int .i64 k3, .bool s3, .slice p3 L3 C3, .int .i64 e3, .bool m3] 63)).alloc (.cells #[.int .i64 k4, .bool s4, .slice p4 L4 C4, .int .i64 e4, .bool m4] 63)) _ (wideW s)) := H1.out.next qz
  have H2 : Hid (Dn ((((w4.alloc (.cells #[.int .i64 k1, .bool s1, .slice p1 L1 C1, .int .i64 e1, .bool m1] 63)).alloc (.cells #[.int .i64 k2, .bool s2, .slice p2 L2 C2, .int .i64 e2, .bool m2] 63)).alloc (.cells #[.int .i64 k3, .bool s3, .slice p3 L3 C3, .int .i64 e3, .bool m3] 63)).alloc (.cells #[.int .i64 k4, .bool s4, .slice p4 L4 C4, .int .i64 e4, .bool m4] 63)) _ (wideW sa)) := H2.out.next qz
  have H3 : Hid (Dn ((((w4.alloc (.cells #[.int .i64 k1, .bool s1, .slice p1 L1 C1, .int .i64 e1, .bool m1] 63)).alloc (.cells #[.int .i64 k2, .bool s2, .slice p2 L2 C2, .int .i64 e2, .bool m2] 63)).alloc (.cells #[.int .i64 k3, .bool s3, .slice p3 L3 C3, .int .i64 e3, .bool m3] 63)).alloc (.cells #[.int .i64 k4, .bool s4, .slice p4 L4 C4, .int .i64 e4, .bool m4] 63)) _ (wideW d)) := H3.out.next qz
  have H4 : Hid (Dn ((((w4.alloc (.cells #[.int .i64 k1, .bool s1, .slice p1 L1 C1, .int .i64 e1, .bool m1] 63)).alloc (.cells #[.int .i64 k2, .bool s2, .slice p2 L2 C2, .int .i64 e2, .bool m2] 63)).alloc (.cells #[.int .i64 k3, .bool s3, .slice p3 L3 C3, .int .i64 e3, .bool m3] 63)).alloc (.cells #[.int .i64 k4, .bool s4, .slice p4 L4 C4, .int .i64 e4, .bool m4] 63)) _ (wideW da)) := H4.out.next qz
  have HQ : Hid (Q w ((((w4.alloc (.cells #[.int .i64 k1, .bool s1, .slice p1 L1 C1, .int .i64 e1, .bool m1] 63)).alloc (.cells #[.int .i64 k2, .bool s2, .slice p2 L2 C2, .int .i64 e2, .bool m2] 63)).alloc (.cells #[.int .i64 k3, .bool s3, .slice p3 L3 C3, .int .i64 e3, .bool m3] 63)).alloc (.cells #[.int .i64 k4, .bool s4, .slice p4 L4 C4, .int .i64 e4, .bool m4] 63))) := HQ.out.trans qz
  have f1_0 := qw_cell f1_0
  have f1_1 := qw_cell f1_1
  have f1_2 := qw_cell f1_2
  have f1_3 := qw_cell f1_3
  have f1_4 := qw_cell f1_4
  have f2_0 := qw_cell f2_0
  have f2_1 := qw_cell f2_1
  have f2_2 := qw_cell f2_2
  have f2_3 := qw_cell f2_3
  have f2_4 := qw_cell f2_4
  have f3_0 := qw_cell f3_0
  have f3_1 := qw_cell f3_1
  have f3_2 := qw_cell f3_2
  have f3_3 := qw_cell f3_3
  have f3_4 := qw_cell f3_4
  have n0 := qw_some ((((w4.alloc (.cells #[.int .i64 k1, .bool s1, .slice p1 L1 C1, .int .i64 e1, .bool m1] 63)).alloc (.cells #[.int .i64 k2, .bool s2, .slice p2 L2 C2, .int .i64 e2, .bool m2] 63)).alloc (.cells #[.int .i64 k3, .bool s3, .slice p3 L3 C3, .int .i64 e3, .bool m3] 63)).alloc (.cells #[.int .i64 k4, .bool s4, .slice p4 L4 C4, .int .i64 e4, .bool m4] 63))
  clear qz
  generalize (((w4.alloc (.cells #[.int .i64 k1, .bool s1, .slice p1 L1 C1, .int .i64 e1, .bool m1] 63)).alloc (.cells #[.int .i64 k2, .bool s2, .slice p2 L2 C2, .int .i64 e2, .bool m2] 63)).alloc (.cells #[.int .i64 k3, .bool s3, .slice p3 L3 C3, .int .i64 e3, .bool m3] 63)).alloc (.cells #[.int .i64 k4, .bool s4, .slice p4 L4 C4, .int .i64 e4, .bool m4] 63) = wz at *
  refine wp_region_mk [0, 1, 2] [[3, 4, 5, 6, 7, 8]] 6 _ (by kernel_rfl) (by kernel_rfl) rfl (by kernel_rfl) ?_
  simp only [List.filterMap_cons, List.filterMap_nil, List.getElem?_cons_zero, List.getElem?_cons_succ]
  repeat (first | go_big_quiet_step (fail) | quiet_step (fail))
  refine wpQuiet_nil ?_
  intro x0 q0
  clear f1_0 f1_1 f1_2 f1_3 f1_4 f2_0 f2_1 f2_2 f2_3 f2_4 f3_0 f3_1 f3_2 f3_3 f3_4 n0
  have D1 := H1.out.next q0
  have D2 := H2.out.next q0
  have D3 := H3.out.next q0
  refine tree_call 3 rfl rfl (run_fn 33 #[.tmp 29] _ rfl enrest (vs := #[.agg #[.int .i64 k2, .bool s2, .slice p2 L2 C2, .int .i64 e2, .bool m2]]) (by simp [Act.eval, Act.put])) (G := fun u x' => Dn x' u (rsT (wideW sa)) ∧ Q x0 x') ((rest_dn _ (wideW sa) x0 D2).mono fun e' w' ⟨v, a, b, c⟩ => ⟨v, a, b, c⟩) ?_
  rintro u1 x1 ⟨hu1, q1⟩
  have D1 := D1.next q1
  have D2 := D2.next q1
  have D3 := D3.next q1
  have q1 := q0.trans q1
  refine ⟨q1, ?_⟩
  refine tree_call 4 rfl rfl (run_fn 32 #[.tmp 28, .tmp 30] _ rfl entimes (vs := #[.agg #[.int .i64 k3, .bool s3, .slice p3 L3 C3, .int .i64 e3, .bool m3], u1]) (by simp [Act.eval, Act.put])) (G := fun u x' => Dn x' u (opT .mul (wideW d) (rsT (wideW sa))) ∧ Q x1 x') ((times_dn _ _ (wideW d) (rsT (wideW sa)) x1 D3 hu1).mono fun e' w' ⟨v, a, b, c⟩ => ⟨v, a, b, c⟩) ?_
  rintro u2 x2 ⟨hu2, q2⟩
  have D1 := D1.next q2
  have D2 := D2.next q2
  have D3 := D3.next q2
  have hu1 := hu1.next q2
  have q2 := q1.trans q2
  refine ⟨q2, ?_⟩
  refine tree_call 5 rfl rfl (run_fn 31 #[.tmp 27, .tmp 31] _ rfl enplus (vs := #[.agg #[.int .i64 k1, .bool s1, .slice p1 L1 C1, .int .i64 e1, .bool m1], u2]) (by simp [Act.eval, Act.put])) (G := fun u x' => Dn x' u (opT .add (wideW s) (opT .mul (wideW d) (rsT (wideW sa)))) ∧ Q x2 x') ((plus_dn _ _ (wideW s) (opT .mul (wideW d) (rsT (wideW sa))) x2 D1 hu2).mono fun e' w' ⟨v, a, b, c⟩ => ⟨v, a, b, c⟩) ?_
  rintro u3 x3 ⟨hu3, q3⟩
  have D1 := D1.next q3
  have D2 := D2.next q3
  have D3 := D3.next q3
  have hu1 := hu1.next q3
  have hu2 := hu2.next q3
  have q3 := q2.trans q3
  refine ⟨q3, ?_⟩
  refine tree_call 6 rfl rfl (run_fn 30 #[.tmp 32] _ rfl entold (vs := #[u3]) (by simp [Act.eval, Act.put])) (calls_u2 (told15_any _ (opT .add (wideW s) (opT .mul (wideW d) (rsT (wideW sa)))) (opT_lt _ _ _) x3 hu3)) ?_
  rintro u x4 ⟨rfl, q4⟩
  have q4 := q3.trans q4
  refine ⟨q4, ?_⟩
  refine tree_runF 7 rfl rfl rfl (v := .int .u32 (narW (opT .add (wideW s) (opT .mul (wideW d) (rsT (wideW sa)))) : Nat)) (x' := x4) (by simp [execOp, go_sem]) ?_
  refine tree_runF 8 rfl rfl rfl (v := .int .i64 0) (x' := x4) (by simp [execOp, go_sem]) ?_
  refine tree_nil ?_
  have HQ : Hid (Q w x4) := HQ.out.trans q4
  go_wp2_with fail
  refine bodyPost_ret (v := .tuple #[.int .u32 (narW (opT .add (wideW s) (opT .mul (wideW d) (rsT (wideW sa)))) : Nat), .int .i64 0]) (by simp [results, Tryz.results8, go_sem, Act.put]) rfl ⟨rfl, HQ.out⟩
set_option maxHeartbeats 4000000 in
set_option maxRecDepth 100000 in
theorem rone_2 (s sa d da : Nat) (hs : s < 4294967296) (ha : sa < 4294967296) (hd : d < 4294967296) (hb : da < 4294967296) (w : World) :
    Calls Tryz.prog 8 #[.int .i64 2, .int .u32 (s : Int), .int .u32 (sa : Int), .int .u32 (d : Int), .int .u32 (da : Int)] w fun e w' => e = .returned (.tuple #[.int .u32 (mxV 2 s sa d da : Nat), .int .i64 0]) ∧ Q w w' := by
  have HS : Hid (s < 4294967296 ∧ sa < 4294967296 ∧ d < 4294967296 ∧ da < 4294967296) := ⟨hs, ha, hd, hb⟩
  clear hs ha hd hb
  rw [mxV_2]
  have ennum := enters_of Tryz.func29 (by kernel_rfl) rfl
  have enrest := enters_of Tryz.func33 (by kernel_rfl) rfl
  have entimes := enters_of Tryz.func32 (by kernel_rfl) rfl
  have enplus := enters_of Tryz.func31 (by kernel_rfl) rfl
  have entold := enters_of Tryz.func30 (by kernel_rfl) rfl
  go_enter Tryz.func8, Tryz.ntmps8
  go_wp2_with fail
  refine (num15_any s HS.out.1 _).mono ?_
  rintro e' w1 ⟨v, rfl, h1, q1⟩
  obtain ⟨k1, s1, p1, L1, C1, e1, m1, rfl⟩ := NumAt.made h1
  have H1 : Hid (Dn w1 _ (wideW s)) := h1
  have HQ : Hid (Q w w1) := q1
  clear h1 q1
  go_wp2_with fail
  refine (num15_any sa HS.out.2.1 _).mono ?_
  rintro e' w2 ⟨v, rfl, h2, q2⟩
  obtain ⟨k2, s2, p2, L2, C2, e2, m2, rfl⟩ := NumAt.made h2
  have H2 : Hid (Dn w2 _ (wideW sa)) := h2
  have H1 : Hid (Dn w2 _ (wideW s)) := H1.out.next q2
  have HQ : Hid (Q w w2) := HQ.out.trans q2
  clear h2 q2
  go_wp2_with fail
  refine (num15_any d HS.out.2.2.1 _).mono ?_
  rintro e' w3 ⟨v, rfl, h3, q3⟩
  obtain ⟨k3, s3, p3, L3, C3, e3, m3, rfl⟩ := NumAt.made h3
  have H3 : Hid (Dn w3 _ (wideW d)) := h3
  have H1 : Hid (Dn w3 _ (wideW s)) := H1.out.next q3
  have H2 : Hid (Dn w3 _ (wideW sa)) := H2.out.next q3
  have HQ : Hid (Q w w3) := HQ.out.trans q3
  clear h3 q3
  go_wp2_with fail
  refine (num15_any da HS.out.2.2.2 _).mono ?_
  rintro e' w4 ⟨v, rfl, h4, q4⟩
  obtain ⟨k4, s4, p4, L4, C4, e4, m4, rfl⟩ := NumAt.made h4
  have H4 : Hid (Dn w4 _ (wideW da)) := h4
  have H1 : Hid (Dn w4 _ (wideW s)) := H1.out.next q4
  have H2 : Hid (Dn w4 _ (wideW sa)) := H2.out.next q4
  have H3 : Hid (Dn w4 _ (wideW d)) := H3.out.next q4
  have HQ : Hid (Q w w4) := HQ.out.trans q4
  clear h4 q4
  go_wp2_with fail
  have qz : Q w4 ((((w4.alloc (.cells #[.int .i64 k1, .bool s1, .slice p1 L1 C1, .int .i64 e1, .bool m1] 63)).alloc (.cells #[.int .i64 k2, .bool s2, .slice p2 L2 C2, .int .i64 e2, .bool m2] 63)).alloc (.cells #[.int .i64 k3, .bool s3, .slice p3 L3 C3, .int .i64 e3, .bool m3] 63)).alloc (.cells #[.int .i64 k4, .bool s4, .slice p4 L4 C4, .int .i64 e4, .bool m4] 63)) := ((((Q.refl w4).cells _ _).cells _ _).cells _ _).cells _ _
  have H1 : Hid (Dn ((((w4.alloc (.cells #[.int .i64 k1, .bool s1, .slice p1 L1 C1, .int .i64 e1, .bool m1] 63)).alloc (.cells #[.int .i64 k2, .bool s2, .slice p2 L2 C2, .int .i64 e2, .bool m2] 63)).alloc (.cells #[.int .i64 k3, .bool s3, .slice p3 L3 C3, .int .i64 e3, .bool m3] 63)).alloc (.cells #[.int .i64 k4, .bool s4, .slice p4 L4 C4, .int .i64 e4, .bool m4] 63)) _ (wideW s)) := H1.out.next qz
  have H2 : Hid (Dn ((((w4.alloc (.cells #[.int .i64 k1, .bool s1, .slice p1 L1 C1, .int .i64 e1, .bool m1] 63)).alloc (.cells #[.int .i64 k2, .bool s2, .slice p2 L2 C2, .int .i64 e2, .bool m2] 63)).alloc (.cells #[.int .i64 k3, .bool s3, .slice p3 L3 C3, .int .i64 e3, .bool m3] 63)).alloc (.cells #[.int .i64 k4, .bool s4, .slice p4 L4 C4, .int .i64 e4, .bool m4] 63)) _ (wideW sa)) := H2.out.next qz
  have H3 : Hid (Dn ((((w4.alloc (.cells #[.int .i64 k1, .bool s1, .slice p1 L1 C1, .int .i64 e1, .bool m1] 63)).alloc (.cells #[.int .i64 k2, .bool s2, .slice p2 L2 C2, .int .i64 e2, .bool m2] 63)).alloc (.cells #[.int .i64 k3, .bool s3, .slice p3 L3 C3, .int .i64 e3, .bool m3] 63)).alloc (.cells #[.int .i64 k4, .bool s4, .slice p4 L4 C4, .int .i64 e4, .bool m4] 63)) _ (wideW d)) := H3.out.next qz
  have H4 : Hid (Dn ((((w4.alloc (.cells #[.int .i64 k1, .bool s1, .slice p1 L1 C1, .int .i64 e1, .bool m1] 63)).alloc (.cells #[.int .i64 k2, .bool s2, .slice p2 L2 C2, .int .i64 e2, .bool m2] 63)).alloc (.cells #[.int .i64 k3, .bool s3, .slice p3 L3 C3, .int .i64 e3, .bool m3] 63)).alloc (.cells #[.int .i64 k4, .bool s4, .slice p4 L4 C4, .int .i64 e4, .bool m4] 63)) _ (wideW da)) := H4.out.next qz
  have HQ : Hid (Q w ((((w4.alloc (.cells #[.int .i64 k1, .bool s1, .slice p1 L1 C1, .int .i64 e1, .bool m1] 63)).alloc (.cells #[.int .i64 k2, .bool s2, .slice p2 L2 C2, .int .i64 e2, .bool m2] 63)).alloc (.cells #[.int .i64 k3, .bool s3, .slice p3 L3 C3, .int .i64 e3, .bool m3] 63)).alloc (.cells #[.int .i64 k4, .bool s4, .slice p4 L4 C4, .int .i64 e4, .bool m4] 63))) := HQ.out.trans qz
  clear qz
  refine (times_dn _ _ (wideW s) (wideW da) _ H1.out H4.out).mono ?_
  rintro e' w5 ⟨v5, rfl, h5, q5⟩
  have H5 : Hid (Dn w5 v5 (opT .mul (wideW s) (wideW da))) := h5
  have HQ : Hid (Q w w5) := HQ.out.trans q5
  clear h5 q5
  go_wp2_with fail
  refine (told15_any _ (opT .mul (wideW s) (wideW da)) (opT_lt _ _ _) _ H5.out).mono ?_
  rintro e' w6 ⟨rfl, q6⟩
  have HQ : Hid (Q w w6) := HQ.out.trans q6
  clear q6
  go_wp2_with fail
  go_ret2
  exact ⟨rfl, HQ.out⟩
set_option maxHeartbeats 4000000 in
set_option maxRecDepth 100000 in
theorem rone_3 (s sa d da : Nat) (hs : s < 4294967296) (ha : sa < 4294967296) (hd : d < 4294967296) (hb : da < 4294967296) (w : World) :
    Calls Tryz.prog 8 #[.int .i64 3, .int .u32 (s : Int), .int .u32 (sa : Int), .int .u32 (d : Int), .int .u32 (da : Int)] w fun e w' => e = .returned (.tuple #[.int .u32 (mxV 3 s sa d da : Nat), .int .i64 0]) ∧ Q w w' := by
  have HS : Hid (s < 4294967296 ∧ sa < 4294967296 ∧ d < 4294967296 ∧ da < 4294967296) := ⟨hs, ha, hd, hb⟩
  clear hs ha hd hb
  rw [mxV_3]
  have ennum := enters_of Tryz.func29 (by kernel_rfl) rfl
  have enrest := enters_of Tryz.func33 (by kernel_rfl) rfl
  have entimes := enters_of Tryz.func32 (by kernel_rfl) rfl
  have enplus := enters_of Tryz.func31 (by kernel_rfl) rfl
  have entold := enters_of Tryz.func30 (by kernel_rfl) rfl
  go_enter Tryz.func8, Tryz.ntmps8
  go_wp2_with fail
  refine (num15_any s HS.out.1 _).mono ?_
  rintro e' w1 ⟨v, rfl, h1, q1⟩
  obtain ⟨k1, s1, p1, L1, C1, e1, m1, rfl⟩ := NumAt.made h1
  have H1 : Hid (Dn w1 _ (wideW s)) := h1
  have HQ : Hid (Q w w1) := q1
  clear h1 q1
  go_wp2_with fail
  refine (num15_any sa HS.out.2.1 _).mono ?_
  rintro e' w2 ⟨v, rfl, h2, q2⟩
  obtain ⟨k2, s2, p2, L2, C2, e2, m2, rfl⟩ := NumAt.made h2
  have H2 : Hid (Dn w2 _ (wideW sa)) := h2
  have H1 : Hid (Dn w2 _ (wideW s)) := H1.out.next q2
  have HQ : Hid (Q w w2) := HQ.out.trans q2
  clear h2 q2
  go_wp2_with fail
  refine (num15_any d HS.out.2.2.1 _).mono ?_
  rintro e' w3 ⟨v, rfl, h3, q3⟩
  obtain ⟨k3, s3, p3, L3, C3, e3, m3, rfl⟩ := NumAt.made h3
  have H3 : Hid (Dn w3 _ (wideW d)) := h3
  have H1 : Hid (Dn w3 _ (wideW s)) := H1.out.next q3
  have H2 : Hid (Dn w3 _ (wideW sa)) := H2.out.next q3
  have HQ : Hid (Q w w3) := HQ.out.trans q3
  clear h3 q3
  go_wp2_with fail
  refine (num15_any da HS.out.2.2.2 _).mono ?_
  rintro e' w4 ⟨v, rfl, h4, q4⟩
  obtain ⟨k4, s4, p4, L4, C4, e4, m4, rfl⟩ := NumAt.made h4
  have H4 : Hid (Dn w4 _ (wideW da)) := h4
  have H1 : Hid (Dn w4 _ (wideW s)) := H1.out.next q4
  have H2 : Hid (Dn w4 _ (wideW sa)) := H2.out.next q4
  have H3 : Hid (Dn w4 _ (wideW d)) := H3.out.next q4
  have HQ : Hid (Q w w4) := HQ.out.trans q4
  clear h4 q4
  go_wp2_with fail
  have qz : Q w4 ((((w4.alloc (.cells #[.int .i64 k1, .bool s1, .slice p1 L1 C1, .int .i64 e1, .bool m1] 63)).alloc (.cells #[.int .i64 k2, .bool s2, .slice p2 L2 C2, .int .i64 e2, .bool m2] 63)).alloc (.cells #[.int .i64 k3, .bool s3, .slice p3 L3 C3, .int .i64 e3, .bool m3] 63)).alloc (.cells #[.int .i64 k4, .bool s4, .slice p4 L4 C4, .int .i64 e4, .bool m4] 63)) := ((((Q.refl w4).cells _ _).cells _ _).cells _ _).cells _ _
  have f1_0 : ((((w4.alloc (.cells #[.int .i64 k1, .bool s1, .slice p1 L1 C1, .int .i64 e1, .bool m1] 63)).alloc (.cells #[.int .i64 k2, .bool s2, .slice p2 L2 C2, .int .i64 e2, .bool m2] 63)).alloc (.cells #[.int .i64 k3, .bool s3, .slice p3 L3 C3, .int .i64 e3, .bool m3] 63)).alloc (.cells #[.int .i64 k4, .bool s4, .slice p4 L4 C4, .int .i64 e4, .bool m4] 63)).cell? ⟨w4.heap.size, 0, none⟩ = some (.int .i64 k1) := by simp [go_sem]
  have f1_1 : ((((w4.alloc (.cells #[.int .i64 k1, .bool s1, .slice p1 L1 C1, .int .i64 e1, .bool m1] 63)).alloc (.cells #[.int .i64 k2, .bool s2, .slice p2 L2 C2, .int .i64 e2, .bool m2] 63)).alloc (.cells #[.int .i64 k3, .bool s3, .slice p3 L3 C3, .int .i64 e3, .bool m3] 63)).alloc (.cells #[.int .i64 k4, .bool s4, .slice p4 L4 C4, .int .i64 e4, .bool m4] 63)).cell? ⟨w4.heap.size, 1, none⟩ = some (.bool s1) := by simp [go_sem]
  have f1_2 : ((((w4.alloc (.cells #[.int .i64 k1, .bool s1, .slice p1 L1 C1, .int .i64 e1, .bool m1] 63)).alloc (.cells #[.int .i64 k2, .bool s2, .slice p2 L2 C2, .int .i64 e2, .bool m2] 63)).alloc (.cells #[.int .i64 k3, .bool s3, .slice p3 L3 C3, .int .i64 e3, .bool m3] 63)).alloc (.cells #[.int .i64 k4, .bool s4, .slice p4 L4 C4, .int .i64 e4, .bool m4] 63)).cell? ⟨w4.heap.size, 2, none⟩ = some (.slice p1 L1 C1) := by simp [go_sem]
  have f1_3 : ((((w4.alloc (.cells #[.int .i64 k1, .bool s1, .slice p1 L1 C1, .int .i64 e1, .bool m1] 63)).alloc (.cells #[.int .i64 k2, .bool s2, .slice p2 L2 C2, .int .i64 e2, .bool m2] 63)).alloc (.cells #[.int .i64 k3, .bool s3, .slice p3 L3 C3, .int .i64 e3, .bool m3] 63)).alloc (.cells #[.int .i64 k4, .bool s4, .slice p4 L4 C4, .int .i64 e4, .bool m4] 63)).cell? ⟨w4.heap.size, 3, none⟩ = some (.int .i64 e1) := by simp [go_sem]
  have f1_4 : ((((w4.alloc (.cells #[.int .i64 k1, .bool s1, .slice p1 L1 C1, .int .i64 e1, .bool m1] 63)).alloc (.cells #[.int .i64 k2, .bool s2, .slice p2 L2 C2, .int .i64 e2, .bool m2] 63)).alloc (.cells #[.int .i64 k3, .bool s3, .slice p3 L3 C3, .int .i64 e3, .bool m3] 63)).alloc (.cells #[.int .i64 k4, .bool s4, .slice p4 L4 C4, .int .i64 e4, .bool m4] 63)).cell? ⟨w4.heap.size, 4, none⟩ = some (.bool m1) := by simp [go_sem]
  have f4_0 : ((((w4.alloc (.cells #[.int .i64 k1, .bool s1, .slice p1 L1 C1, .int .i64 e1, .bool m1] 63)).alloc (.cells #[.int .i64 k2, .bool s2, .slice p2 L2 C2, .int .i64 e2, .bool m2] 63)).alloc (.cells #[.int .i64 k3, .bool s3, .slice p3 L3 C3, .int .i64 e3, .bool m3] 63)).alloc (.cells #[.int .i64 k4, .bool s4, .slice p4 L4 C4, .int .i64 e4, .bool m4] 63)).cell? ⟨w4.heap.size + 1 + 1 + 1, 0, none⟩ = some (.int .i64 k4) := by simp [go_sem]
  have f4_1 : ((((w4.alloc (.cells #[.int .i64 k1, .bool s1, .slice p1 L1 C1, .int .i64 e1, .bool m1] 63)).alloc (.cells #[.int .i64 k2, .bool s2, .slice p2 L2 C2, .int .i64 e2, .bool m2] 63)).alloc (.cells #[.int .i64 k3, .bool s3, .slice p3 L3 C3, .int .i64 e3, .bool m3] 63)).alloc (.cells #[.int .i64 k4, .bool s4, .slice p4 L4 C4, .int .i64 e4, .bool m4] 63)).cell? ⟨w4.heap.size + 1 + 1 + 1, 1, none⟩ = some (.bool s4) := by simp [go_sem]
  have f4_2 : ((((w4.alloc (.cells #[.int .i64 k1, .bool s1, .slice p1 L1 C1, .int .i64 e1, .bool m1] 63)).alloc (.cells #[.int .i64 k2, .bool s2, .slice p2 L2 C2, .int .i64 e2, .bool m2] 63)).alloc (.cells #[.int .i64 k3, .bool s3, .slice p3 L3 C3, .int .i64 e3, .bool m3] 63)).alloc (.cells #[.int .i64 k4, .bool s4, .slice p4 L4 C4, .int .i64 e4, .bool m4] 63)).cell? ⟨w4.heap.size + 1 + 1 + 1, 2, none⟩ = some (.slice p4 L4 C4) := by simp [go_sem]
  have f4_3 : ((((w4.alloc (.cells #[.int .i64 k1, .bool s1, .slice p1 L1 C1, .int .i64 e1, .bool m1] 63)).alloc (.cells #[.int .i64 k2, .bool s2, .slice p2 L2 C2, .int .i64 e2, .bool m2] 63)).alloc (.cells #[.int .i64 k3, .bool s3, .slice p3 L3 C3, .int .i64 e3, .bool m3] 63)).alloc (.cells #[.int .i64 k4, .bool s4, .slice p4 L4 C4, .int .i64 e4, .bool m4] 63)).cell? ⟨w4.heap.size + 1 + 1 + 1, 3, none⟩ = some (.int .i64 e4) := by simp [go_sem]
  have f4_4 : ((((w4.alloc (.cells #[.int .i64 k1, .bool s1, .slice p1 L1 C1, .int .i64 e1, .bool m1] 63)).alloc (.cells #[.int .i64 k2, .bool s2, .slice p2 L2 C2, .int .i64 e2, .bool m2] 63)).alloc (.cells #[.int .i64 k3, .bool s3, .slice p3 L3 C3, .int .i64 e3, .bool m3] 63)).alloc (.cells #[.int .i64 k4, .bool s4, .slice p4 L4 C4, .int .i64 e4, .bool m4] 63)).cell? ⟨w4.heap.size + 1 + 1 + 1, 4, none⟩ = some (.bool m4) := by simp [go_sem]
  have H1 : Hid (Dn ((((w4.alloc (.cells #[.int .i64 k1, .bool s1, .slice p1 L1 C1, .int .i64 e1, .bool m1] 63)).alloc (.cells #[.int .i64 k2, .bool s2, .slice p2 L2 C2, .int .i64 e2, .bool m2] 63)).alloc (.cells #[.int .i64 k3, .bool s3, .slice p3 L3 C3, .int .i64 e3, .bool m3] 63)).alloc (.cells #[.int .i64 k4, .bool s4, .slice p4 L4 C4, .int .i64 e4, .bool m4] 63)) _ (wideW s)) := H1.out.next qz
  have H2 : Hid (Dn ((((w4.alloc (.cells #[.int .i64 k1, .bool s1, .slice p1 L1 C1, .int .i64 e1, .bool m1] 63)).alloc (.cells #[.int .i64 k2, .bool s2, .slice p2 L2 C2, .int .i64 e2, .bool m2] 63)).alloc (.cells #[.int .i64 k3, .bool s3, .slice p3 L3 C3, .int .i64 e3, .bool m3] 63)).alloc (.cells #[.int .i64 k4, .bool s4, .slice p4 L4 C4, .int .i64 e4, .bool m4] 63)) _ (wideW sa)) := H2.out.next qz
  have H3 : Hid (Dn ((((w4.alloc (.cells #[.int .i64 k1, .bool s1, .slice p1 L1 C1, .int .i64 e1, .bool m1] 63)).alloc (.cells #[.int .i64 k2, .bool s2, .slice p2 L2 C2, .int .i64 e2, .bool m2] 63)).alloc (.cells #[.int .i64 k3, .bool s3, .slice p3 L3 C3, .int .i64 e3, .bool m3] 63)).alloc (.cells #[.int .i64 k4, .bool s4, .slice p4 L4 C4, .int .i64 e4, .bool m4] 63)) _ (wideW d)) := H3.out.next qz
  have H4 : Hid (Dn ((((w4.alloc (.cells #[.int .i64 k1, .bool s1, .slice p1 L1 C1, .int .i64 e1, .bool m1] 63)).alloc (.cells #[.int .i64 k2, .bool s2, .slice p2 L2 C2, .int .i64 e2, .bool m2] 63)).alloc (.cells #[.int .i64 k3, .bool s3, .slice p3 L3 C3, .int .i64 e3, .bool m3] 63)).alloc (.cells #[.int .i64 k4, .bool s4, .slice p4 L4 C4, .int .i64 e4, .bool m4] 63)) _ (wideW da)) := H4.out.next qz
  have HQ : Hid (Q w ((((w4.alloc (.cells #[.int .i64 k1, .bool s1, .slice p1 L1 C1, .int .i64 e1, .bool m1] 63)).alloc (.cells #[.int .i64 k2, .bool s2, .slice p2 L2 C2, .int .i64 e2, .bool m2] 63)).alloc (.cells #[.int .i64 k3, .bool s3, .slice p3 L3 C3, .int .i64 e3, .bool m3] 63)).alloc (.cells #[.int .i64 k4, .bool s4, .slice p4 L4 C4, .int .i64 e4, .bool m4] 63))) := HQ.out.trans qz
  have f1_0 := qw_cell f1_0
  have f1_1 := qw_cell f1_1
  have f1_2 := qw_cell f1_2
  have f1_3 := qw_cell f1_3
  have f1_4 := qw_cell f1_4
  have f4_0 := qw_cell f4_0
  have f4_1 := qw_cell f4_1
  have f4_2 := qw_cell f4_2
  have f4_3 := qw_cell f4_3
  have f4_4 := qw_cell f4_4
  have n0 := qw_some ((((w4.alloc (.cells #[.int .i64 k1, .bool s1, .slice p1 L1 C1, .int .i64 e1, .bool m1] 63)).alloc (.cells #[.int .i64 k2, .bool s2, .slice p2 L2 C2, .int .i64 e2, .bool m2] 63)).alloc (.cells #[.int .i64 k3, .bool s3, .slice p3 L3 C3, .int .i64 e3, .bool m3] 63)).alloc (.cells #[.int .i64 k4, .bool s4, .slice p4 L4 C4, .int .i64 e4, .bool m4] 63))
  clear qz
  generalize (((w4.alloc (.cells #[.int .i64 k1, .bool s1, .slice p1 L1 C1, .int .i64 e1, .bool m1] 63)).alloc (.cells #[.int .i64 k2, .bool s2, .slice p2 L2 C2, .int .i64 e2, .bool m2] 63)).alloc (.cells #[.int .i64 k3, .bool s3, .slice p3 L3 C3, .int .i64 e3, .bool m3] 63)).alloc (.cells #[.int .i64 k4, .bool s4, .slice p4 L4 C4, .int .i64 e4, .bool m4] 63) = wz at *
  refine wp_region_mk [0, 1] [[2, 3, 4, 5, 6]] 5 _ (by kernel_rfl) (by kernel_rfl) rfl (by kernel_rfl) ?_
  simp only [List.filterMap_cons, List.filterMap_nil, List.getElem?_cons_zero, List.getElem?_cons_succ]
  repeat (first | go_big_quiet_step (fail) | quiet_step (fail))
  refine wpQuiet_nil ?_
  intro x0 q0
  clear f1_0 f1_1 f1_2 f1_3 f1_4 f4_0 f4_1 f4_2 f4_3 f4_4 n0
  have D1 := H1.out.next q0
  have D4 := H4.out.next q0
  refine tree_call 2 rfl rfl (run_fn 33 #[.tmp 43] _ rfl enrest (vs := #[.agg #[.int .i64 k4, .bool s4, .slice p4 L4 C4, .int .i64 e4, .bool m4]]) (by simp [Act.eval, Act.put])) (G := fun u x' => Dn x' u (rsT (wideW da)) ∧ Q x0 x') ((rest_dn _ (wideW da) x0 D4).mono fun e' w' ⟨v, a, b, c⟩ => ⟨v, a, b, c⟩) ?_
  rintro u1 x1 ⟨hu1, q1⟩
  have D1 := D1.next q1
  have D4 := D4.next q1
  have q1 := q0.trans q1
  refine ⟨q1, ?_⟩
  refine tree_call 3 rfl rfl (run_fn 32 #[.tmp 42, .tmp 44] _ rfl entimes (vs := #[.agg #[.int .i64 k1, .bool s1, .slice p1 L1 C1, .int .i64 e1, .bool m1], u1]) (by simp [Act.eval, Act.put])) (G := fun u x' => Dn x' u (opT .mul (wideW s) (rsT (wideW da))) ∧ Q x1 x') ((times_dn _ _ (wideW s) (rsT (wideW da)) x1 D1 hu1).mono fun e' w' ⟨v, a, b, c⟩ => ⟨v, a, b, c⟩) ?_
  rintro u2 x2 ⟨hu2, q2⟩
  have D1 := D1.next q2
  have D4 := D4.next q2
  have hu1 := hu1.next q2
  have q2 := q1.trans q2
  refine ⟨q2, ?_⟩
  refine tree_call 4 rfl rfl (run_fn 30 #[.tmp 45] _ rfl entold (vs := #[u2]) (by simp [Act.eval, Act.put])) (calls_u2 (told15_any _ (opT .mul (wideW s) (rsT (wideW da))) (opT_lt _ _ _) x2 hu2)) ?_
  rintro u x3 ⟨rfl, q3⟩
  have q3 := q2.trans q3
  refine ⟨q3, ?_⟩
  refine tree_runF 5 rfl rfl rfl (v := .int .u32 (narW (opT .mul (wideW s) (rsT (wideW da))) : Nat)) (x' := x3) (by simp [execOp, go_sem]) ?_
  refine tree_runF 6 rfl rfl rfl (v := .int .i64 0) (x' := x3) (by simp [execOp, go_sem]) ?_
  refine tree_nil ?_
  have HQ : Hid (Q w x3) := HQ.out.trans q3
  go_wp2_with fail
  refine bodyPost_ret (v := .tuple #[.int .u32 (narW (opT .mul (wideW s) (rsT (wideW da))) : Nat), .int .i64 0]) (by simp [results, Tryz.results8, go_sem, Act.put]) rfl ⟨rfl, HQ.out⟩
set_option maxHeartbeats 4000000 in
set_option maxRecDepth 100000 in
theorem rone_4 (s sa d da : Nat) (hs : s < 4294967296) (ha : sa < 4294967296) (hd : d < 4294967296) (hb : da < 4294967296) (w : World) :
    Calls Tryz.prog 8 #[.int .i64 4, .int .u32 (s : Int), .int .u32 (sa : Int), .int .u32 (d : Int), .int .u32 (da : Int)] w fun e w' => e = .returned (.tuple #[.int .u32 (mxV 4 s sa d da : Nat), .int .i64 0]) ∧ Q w w' := by
  have HS : Hid (s < 4294967296 ∧ sa < 4294967296 ∧ d < 4294967296 ∧ da < 4294967296) := ⟨hs, ha, hd, hb⟩
  clear hs ha hd hb
  rw [mxV_4]
  have ennum := enters_of Tryz.func29 (by kernel_rfl) rfl
  have enrest := enters_of Tryz.func33 (by kernel_rfl) rfl
  have entimes := enters_of Tryz.func32 (by kernel_rfl) rfl
  have enplus := enters_of Tryz.func31 (by kernel_rfl) rfl
  have entold := enters_of Tryz.func30 (by kernel_rfl) rfl
  go_enter Tryz.func8, Tryz.ntmps8
  go_wp2_with fail
  refine (num15_any s HS.out.1 _).mono ?_
  rintro e' w1 ⟨v, rfl, h1, q1⟩
  obtain ⟨k1, s1, p1, L1, C1, e1, m1, rfl⟩ := NumAt.made h1
  have H1 : Hid (Dn w1 _ (wideW s)) := h1
  have HQ : Hid (Q w w1) := q1
  clear h1 q1
  go_wp2_with fail
  refine (num15_any sa HS.out.2.1 _).mono ?_
  rintro e' w2 ⟨v, rfl, h2, q2⟩
  obtain ⟨k2, s2, p2, L2, C2, e2, m2, rfl⟩ := NumAt.made h2
  have H2 : Hid (Dn w2 _ (wideW sa)) := h2
  have H1 : Hid (Dn w2 _ (wideW s)) := H1.out.next q2
  have HQ : Hid (Q w w2) := HQ.out.trans q2
  clear h2 q2
  go_wp2_with fail
  refine (num15_any d HS.out.2.2.1 _).mono ?_
  rintro e' w3 ⟨v, rfl, h3, q3⟩
  obtain ⟨k3, s3, p3, L3, C3, e3, m3, rfl⟩ := NumAt.made h3
  have H3 : Hid (Dn w3 _ (wideW d)) := h3
  have H1 : Hid (Dn w3 _ (wideW s)) := H1.out.next q3
  have H2 : Hid (Dn w3 _ (wideW sa)) := H2.out.next q3
  have HQ : Hid (Q w w3) := HQ.out.trans q3
  clear h3 q3
  go_wp2_with fail
  refine (num15_any da HS.out.2.2.2 _).mono ?_
  rintro e' w4 ⟨v, rfl, h4, q4⟩
  obtain ⟨k4, s4, p4, L4, C4, e4, m4, rfl⟩ := NumAt.made h4
  have H4 : Hid (Dn w4 _ (wideW da)) := h4
  have H1 : Hid (Dn w4 _ (wideW s)) := H1.out.next q4
  have H2 : Hid (Dn w4 _ (wideW sa)) := H2.out.next q4
  have H3 : Hid (Dn w4 _ (wideW d)) := H3.out.next q4
  have HQ : Hid (Q w w4) := HQ.out.trans q4
  clear h4 q4
  go_wp2_with fail
  have qz : Q w4 ((((w4.alloc (.cells #[.int .i64 k1, .bool s1, .slice p1 L1 C1, .int .i64 e1, .bool m1] 63)).alloc (.cells #[.int .i64 k2, .bool s2, .slice p2 L2 C2, .int .i64 e2, .bool m2] 63)).alloc (.cells #[.int .i64 k3, .bool s3, .slice p3 L3 C3, .int .i64 e3, .bool m3] 63)).alloc (.cells #[.int .i64 k4, .bool s4, .slice p4 L4 C4, .int .i64 e4, .bool m4] 63)) := ((((Q.refl w4).cells _ _).cells _ _).cells _ _).cells _ _
  have f1_0 : ((((w4.alloc (.cells #[.int .i64 k1, .bool s1, .slice p1 L1 C1, .int .i64 e1, .bool m1] 63)).alloc (.cells #[.int .i64 k2, .bool s2, .slice p2 L2 C2, .int .i64 e2, .bool m2] 63)).alloc (.cells #[.int .i64 k3, .bool s3, .slice p3 L3 C3, .int .i64 e3, .bool m3] 63)).alloc (.cells #[.int .i64 k4, .bool s4, .slice p4 L4 C4, .int .i64 e4, .bool m4] 63)).cell? ⟨w4.heap.size, 0, none⟩ = some (.int .i64 k1) := by simp [go_sem]
  have f1_1 : ((((w4.alloc (.cells #[.int .i64 k1, .bool s1, .slice p1 L1 C1, .int .i64 e1, .bool m1] 63)).alloc (.cells #[.int .i64 k2, .bool s2, .slice p2 L2 C2, .int .i64 e2, .bool m2] 63)).alloc (.cells #[.int .i64 k3, .bool s3, .slice p3 L3 C3, .int .i64 e3, .bool m3] 63)).alloc (.cells #[.int .i64 k4, .bool s4, .slice p4 L4 C4, .int .i64 e4, .bool m4] 63)).cell? ⟨w4.heap.size, 1, none⟩ = some (.bool s1) := by simp [go_sem]
  have f1_2 : ((((w4.alloc (.cells #[.int .i64 k1, .bool s1, .slice p1 L1 C1, .int .i64 e1, .bool m1] 63)).alloc (.cells #[.int .i64 k2, .bool s2, .slice p2 L2 C2, .int .i64 e2, .bool m2] 63)).alloc (.cells #[.int .i64 k3, .bool s3, .slice p3 L3 C3, .int .i64 e3, .bool m3] 63)).alloc (.cells #[.int .i64 k4, .bool s4, .slice p4 L4 C4, .int .i64 e4, .bool m4] 63)).cell? ⟨w4.heap.size, 2, none⟩ = some (.slice p1 L1 C1) := by simp [go_sem]
  have f1_3 : ((((w4.alloc (.cells #[.int .i64 k1, .bool s1, .slice p1 L1 C1, .int .i64 e1, .bool m1] 63)).alloc (.cells #[.int .i64 k2, .bool s2, .slice p2 L2 C2, .int .i64 e2, .bool m2] 63)).alloc (.cells #[.int .i64 k3, .bool s3, .slice p3 L3 C3, .int .i64 e3, .bool m3] 63)).alloc (.cells #[.int .i64 k4, .bool s4, .slice p4 L4 C4, .int .i64 e4, .bool m4] 63)).cell? ⟨w4.heap.size, 3, none⟩ = some (.int .i64 e1) := by simp [go_sem]
  have f1_4 : ((((w4.alloc (.cells #[.int .i64 k1, .bool s1, .slice p1 L1 C1, .int .i64 e1, .bool m1] 63)).alloc (.cells #[.int .i64 k2, .bool s2, .slice p2 L2 C2, .int .i64 e2, .bool m2] 63)).alloc (.cells #[.int .i64 k3, .bool s3, .slice p3 L3 C3, .int .i64 e3, .bool m3] 63)).alloc (.cells #[.int .i64 k4, .bool s4, .slice p4 L4 C4, .int .i64 e4, .bool m4] 63)).cell? ⟨w4.heap.size, 4, none⟩ = some (.bool m1) := by simp [go_sem]
  have f2_0 : ((((w4.alloc (.cells #[.int .i64 k1, .bool s1, .slice p1 L1 C1, .int .i64 e1, .bool m1] 63)).alloc (.cells #[.int .i64 k2, .bool s2, .slice p2 L2 C2, .int .i64 e2, .bool m2] 63)).alloc (.cells #[.int .i64 k3, .bool s3, .slice p3 L3 C3, .int .i64 e3, .bool m3] 63)).alloc (.cells #[.int .i64 k4, .bool s4, .slice p4 L4 C4, .int .i64 e4, .bool m4] 63)).cell? ⟨w4.heap.size + 1, 0, none⟩ = some (.int .i64 k2) := by simp [go_sem]
  have f2_1 : ((((w4.alloc (.cells #[.int .i64 k1, .bool s1, .slice p1 L1 C1, .int .i64 e1, .bool m1] 63)).alloc (.cells #[.int .i64 k2, .bool s2, .slice p2 L2 C2, .int .i64 e2, .bool m2] 63)).alloc (.cells #[.int .i64 k3, .bool s3, .slice p3 L3 C3, .int .i64 e3, .bool m3] 63)).alloc (.cells #[.int .i64 k4, .bool s4, .slice p4 L4 C4, .int .i64 e4, .bool m4] 63)).cell? ⟨w4.heap.size + 1, 1, none⟩ = some (.bool s2) := by simp [go_sem]
  have f2_2 : ((((w4.alloc (.cells #[.int .i64 k1, .bool s1, .slice p1 L1 C1, .int .i64 e1, .bool m1] 63)).alloc (.cells #[.int .i64 k2, .bool s2, .slice p2 L2 C2, .int .i64 e2, .bool m2] 63)).alloc (.cells #[.int .i64 k3, .bool s3, .slice p3 L3 C3, .int .i64 e3, .bool m3] 63)).alloc (.cells #[.int .i64 k4, .bool s4, .slice p4 L4 C4, .int .i64 e4, .bool m4] 63)).cell? ⟨w4.heap.size + 1, 2, none⟩ = some (.slice p2 L2 C2) := by simp [go_sem]
  have f2_3 : ((((w4.alloc (.cells #[.int .i64 k1, .bool s1, .slice p1 L1 C1, .int .i64 e1, .bool m1] 63)).alloc (.cells #[.int .i64 k2, .bool s2, .slice p2 L2 C2, .int .i64 e2, .bool m2] 63)).alloc (.cells #[.int .i64 k3, .bool s3, .slice p3 L3 C3, .int .i64 e3, .bool m3] 63)).alloc (.cells #[.int .i64 k4, .bool s4, .slice p4 L4 C4, .int .i64 e4, .bool m4] 63)).cell? ⟨w4.heap.size + 1, 3, none⟩ = some (.int .i64 e2) := by simp [go_sem]
  have f2_4 : ((((w4.alloc (.cells #[.int .i64 k1, .bool s1, .slice p1 L1 C1, .int .i64 e1, .bool m1] 63)).alloc (.cells #[.int .i64 k2, .bool s2, .slice p2 L2 C2, .int .i64 e2, .bool m2] 63)).alloc (.cells #[.int .i64 k3, .bool s3, .slice p3 L3 C3, .int .i64 e3, .bool m3] 63)).alloc (.cells #[.int .i64 k4, .bool s4, .slice p4 L4 C4, .int .i64 e4, .bool m4] 63)).cell? ⟨w4.heap.size + 1, 4, none⟩ = some (.bool m2) := by simp [go_sem]
  have f3_0 : ((((w4.alloc (.cells #[.int .i64 k1, .bool s1, .slice p1 L1 C1, .int .i64 e1, .bool m1] 63)).alloc (.cells #[.int .i64 k2, .bool s2, .slice p2 L2 C2, .int .i64 e2, .bool m2] 63)).alloc (.cells #[.int .i64 k3, .bool s3, .slice p3 L3 C3, .int .i64 e3, .bool m3] 63)).alloc (.cells #[.int .i64 k4, .bool s4, .slice p4 L4 C4, .int .i64 e4, .bool m4] 63)).cell? ⟨w4.heap.size + 1 + 1, 0, none⟩ = some (.int .i64 k3) := by simp [go_sem]
  have f3_1 : ((((w4.alloc (.cells #[.int .i64 k1, .bool s1, .slice p1 L1 C1, .int .i64 e1, .bool m1] 63)).alloc (.cells #[.int .i64 k2, .bool s2, .slice p2 L2 C2, .int .i64 e2, .bool m2] 63)).alloc (.cells #[.int .i64 k3, .bool s3, .slice p3 L3 C3, .int .i64 e3, .bool m3] 63)).alloc (.cells #[.int .i64 k4, .bool s4, .slice p4 L4 C4, .int .i64 e4, .bool m4] 63)).cell? ⟨w4.heap.size + 1 + 1, 1, none⟩ = some (.bool s3) := by simp [go_sem]
  have f3_2 : ((((w4.alloc (.cells #[.int .i64 k1, .bool s1, .slice p1 L1 C1, .int .i64 e1, .bool m1] 63)).alloc (.cells #[.int .i64 k2, .bool s2, .slice p2 L2 C2, .int .i64 e2, .bool m2] 63)).alloc (.cells #[.int .i64 k3, .bool s3, .slice p3 L3 C3, .int .i64 e3, .bool m3] 63)).alloc (.cells #[.int .i64 k4, .bool s4, .slice p4 L4 C4, .int .i64 e4, .bool m4] 63)).cell? ⟨w4.heap.size + 1 + 1, 2, none⟩ = some (.slice p3 L3 C3) := by simp [go_sem]
  have f3_3 : ((((w4.alloc (.cells #[.int .i64 k1, .bool s1, .slice p1 L1 C1, .int .i64 e1, .bool m1] 63)).alloc (.cells #[.int .i64 k2, .bool s2, .slice p2 L2 C2, .int .i64 e2, .bool m2] 63)).alloc (.cells #[.int .i64 k3, .bool s3, .slice p3 L3 C3, .int .i64 e3, .bool m3] 63)).alloc (.cells #[.int .i64 k4, .bool s4, .slice p4 L4 C4, .int .i64 e4, .bool m4] 63)).cell? ⟨w4.heap.size + 1 + 1, 3, none⟩ = some (.int .i64 e3) := by simp [go_sem]
  have f3_4 : ((((w4.alloc (.cells #[.int .i64 k1, .bool s1, .slice p1 L1 C1, .int .i64 e1, .bool m1] 63)).alloc (.cells #[.int .i64 k2, .bool s2, .slice p2 L2 C2, .int .i64 e2, .bool m2] 63)).alloc (.cells #[.int .i64 k3, .bool s3, .slice p3 L3 C3, .int .i64 e3, .bool m3] 63)).alloc (.cells #[.int .i64 k4, .bool s4, .slice p4 L4 C4, .int .i64 e4, .bool m4] 63)).cell? ⟨w4.heap.size + 1 + 1, 4, none⟩ = some (.bool m3) := by simp [go_sem]
  have f4_0 : ((((w4.alloc (.cells #[.int .i64 k1, .bool s1, .slice p1 L1 C1, .int .i64 e1, .bool m1] 63)).alloc (.cells #[.int .i64 k2, .bool s2, .slice p2 L2 C2, .int .i64 e2, .bool m2] 63)).alloc (.cells #[.int .i64 k3, .bool s3, .slice p3 L3 C3, .int .i64 e3, .bool m3] 63)).alloc (.cells #[.int .i64 k4, .bool s4, .slice p4 L4 C4, .int .i64 e4, .bool m4] 63)).cell? ⟨w4.heap.size + 1 + 1 + 1, 0, none⟩ = some (.int .i64 k4) := by simp [go_sem]
  have f4_1 : ((((w4.alloc (.cells #[.int .i64 k1, .bool s1, .slice p1 L1 C1, .int .i64 e1, .bool m1] 63)).alloc (.cells #[.int .i64 k2, .bool s2, .slice p2 L2 C2, .int .i64 e2, .bool m2] 63)).alloc (.cells #[.int .i64 k3, .bool s3, .slice p3 L3 C3, .int .i64 e3, .bool m3] 63)).alloc (.cells #[.int .i64 k4, .bool s4, .slice p4 L4 C4, .int .i64 e4, .bool m4] 63)).cell? ⟨w4.heap.size + 1 + 1 + 1, 1, none⟩ = some (.bool s4) := by simp [go_sem]
  have f4_2 : ((((w4.alloc (.cells #[.int .i64 k1, .bool s1, .slice p1 L1 C1, .int .i64 e1, .bool m1] 63)).alloc (.cells #[.int .i64 k2, .bool s2, .slice p2 L2 C2, .int .i64 e2, .bool m2] 63)).alloc (.cells #[.int .i64 k3, .bool s3, .slice p3 L3 C3, .int .i64 e3, .bool m3] 63)).alloc (.cells #[.int .i64 k4, .bool s4, .slice p4 L4 C4, .int .i64 e4, .bool m4] 63)).cell? ⟨w4.heap.size + 1 + 1 + 1, 2, none⟩ = some (.slice p4 L4 C4) := by simp [go_sem]
  have f4_3 : ((((w4.alloc (.cells #[.int .i64 k1, .bool s1, .slice p1 L1 C1, .int .i64 e1, .bool m1] 63)).alloc (.cells #[.int .i64 k2, .bool s2, .slice p2 L2 C2, .int .i64 e2, .bool m2] 63)).alloc (.cells #[.int .i64 k3, .bool s3, .slice p3 L3 C3, .int .i64 e3, .bool m3] 63)).alloc (.cells #[.int .i64 k4, .bool s4, .slice p4 L4 C4, .int .i64 e4, .bool m4] 63)).cell? ⟨w4.heap.size + 1 + 1 + 1, 3, none⟩ = some (.int .i64 e4) := by simp [go_sem]
  have f4_4 : ((((w4.alloc (.cells #[.int .i64 k1, .bool s1, .slice p1 L1 C1, .int .i64 e1, .bool m1] 63)).alloc (.cells #[.int .i64 k2, .bool s2, .slice p2 L2 C2, .int .i64 e2, .bool m2] 63)).alloc (.cells #[.int .i64 k3, .bool s3, .slice p3 L3 C3, .int .i64 e3, .bool m3] 63)).alloc (.cells #[.int .i64 k4, .bool s4, .slice p4 L4 C4, .int .i64 e4, .bool m4] 63)).cell? ⟨w4.heap.size + 1 + 1 + 1, 4, none⟩ = some (.bool m4) := by simp [go_sem]
  have H1 : Hid (Dn ((((w4.alloc (.cells #[.int .i64 k1, .bool s1, .slice p1 L1 C1, .int .i64 e1, .bool m1] 63)).alloc (.cells #[.int .i64 k2, .bool s2, .slice p2 L2 C2, .int .i64 e2, .bool m2] 63)).alloc (.cells #[.int .i64 k3, .bool s3, .slice p3 L3 C3, .int .i64 e3, .bool m3] 63)).alloc (.cells #[.int .i64 k4, .bool s4, .slice p4 L4 C4, .int .i64 e4, .bool m4] 63)) _ (wideW s)) := H1.out.next qz
  have H2 : Hid (Dn ((((w4.alloc (.cells #[.int .i64 k1, .bool s1, .slice p1 L1 C1, .int .i64 e1, .bool m1] 63)).alloc (.cells #[.int .i64 k2, .bool s2, .slice p2 L2 C2, .int .i64 e2, .bool m2] 63)).alloc (.cells #[.int .i64 k3, .bool s3, .slice p3 L3 C3, .int .i64 e3, .bool m3] 63)).alloc (.cells #[.int .i64 k4, .bool s4, .slice p4 L4 C4, .int .i64 e4, .bool m4] 63)) _ (wideW sa)) := H2.out.next qz
  have H3 : Hid (Dn ((((w4.alloc (.cells #[.int .i64 k1, .bool s1, .slice p1 L1 C1, .int .i64 e1, .bool m1] 63)).alloc (.cells #[.int .i64 k2, .bool s2, .slice p2 L2 C2, .int .i64 e2, .bool m2] 63)).alloc (.cells #[.int .i64 k3, .bool s3, .slice p3 L3 C3, .int .i64 e3, .bool m3] 63)).alloc (.cells #[.int .i64 k4, .bool s4, .slice p4 L4 C4, .int .i64 e4, .bool m4] 63)) _ (wideW d)) := H3.out.next qz
  have H4 : Hid (Dn ((((w4.alloc (.cells #[.int .i64 k1, .bool s1, .slice p1 L1 C1, .int .i64 e1, .bool m1] 63)).alloc (.cells #[.int .i64 k2, .bool s2, .slice p2 L2 C2, .int .i64 e2, .bool m2] 63)).alloc (.cells #[.int .i64 k3, .bool s3, .slice p3 L3 C3, .int .i64 e3, .bool m3] 63)).alloc (.cells #[.int .i64 k4, .bool s4, .slice p4 L4 C4, .int .i64 e4, .bool m4] 63)) _ (wideW da)) := H4.out.next qz
  have HQ : Hid (Q w ((((w4.alloc (.cells #[.int .i64 k1, .bool s1, .slice p1 L1 C1, .int .i64 e1, .bool m1] 63)).alloc (.cells #[.int .i64 k2, .bool s2, .slice p2 L2 C2, .int .i64 e2, .bool m2] 63)).alloc (.cells #[.int .i64 k3, .bool s3, .slice p3 L3 C3, .int .i64 e3, .bool m3] 63)).alloc (.cells #[.int .i64 k4, .bool s4, .slice p4 L4 C4, .int .i64 e4, .bool m4] 63))) := HQ.out.trans qz
  have f1_0 := qw_cell f1_0
  have f1_1 := qw_cell f1_1
  have f1_2 := qw_cell f1_2
  have f1_3 := qw_cell f1_3
  have f1_4 := qw_cell f1_4
  have f2_0 := qw_cell f2_0
  have f2_1 := qw_cell f2_1
  have f2_2 := qw_cell f2_2
  have f2_3 := qw_cell f2_3
  have f2_4 := qw_cell f2_4
  have f3_0 := qw_cell f3_0
  have f3_1 := qw_cell f3_1
  have f3_2 := qw_cell f3_2
  have f3_3 := qw_cell f3_3
  have f3_4 := qw_cell f3_4
  have f4_0 := qw_cell f4_0
  have f4_1 := qw_cell f4_1
  have f4_2 := qw_cell f4_2
  have f4_3 := qw_cell f4_3
  have f4_4 := qw_cell f4_4
  have n0 := qw_some ((((w4.alloc (.cells #[.int .i64 k1, .bool s1, .slice p1 L1 C1, .int .i64 e1, .bool m1] 63)).alloc (.cells #[.int .i64 k2, .bool s2, .slice p2 L2 C2, .int .i64 e2, .bool m2] 63)).alloc (.cells #[.int .i64 k3, .bool s3, .slice p3 L3 C3, .int .i64 e3, .bool m3] 63)).alloc (.cells #[.int .i64 k4, .bool s4, .slice p4 L4 C4, .int .i64 e4, .bool m4] 63))
  clear qz
  generalize (((w4.alloc (.cells #[.int .i64 k1, .bool s1, .slice p1 L1 C1, .int .i64 e1, .bool m1] 63)).alloc (.cells #[.int .i64 k2, .bool s2, .slice p2 L2 C2, .int .i64 e2, .bool m2] 63)).alloc (.cells #[.int .i64 k3, .bool s3, .slice p3 L3 C3, .int .i64 e3, .bool m3] 63)).alloc (.cells #[.int .i64 k4, .bool s4, .slice p4 L4 C4, .int .i64 e4, .bool m4] 63) = wz at *
  refine wp_region_mk [0, 1, 3, 4] [[2, 5, 6, 7, 8, 9, 10]] 7 _ (by kernel_rfl) (by kernel_rfl) rfl (by kernel_rfl) ?_
  simp only [List.filterMap_cons, List.filterMap_nil, List.getElem?_cons_zero, List.getElem?_cons_succ]
  repeat (first | go_big_quiet_step (fail) | quiet_step (fail))
  refine wpQuiet_nil ?_
  intro x0 q0
  clear f1_0 f1_1 f1_2 f1_3 f1_4 f2_0 f2_1 f2_2 f2_3 f2_4 f3_0 f3_1 f3_2 f3_3 f3_4 f4_0 f4_1 f4_2 f4_3 f4_4 n0
  have D1 := H1.out.next q0
  have D2 := H2.out.next q0
  have D3 := H3.out.next q0
  have D4 := H4.out.next q0
  refine tree_call 2 rfl rfl (run_fn 32 #[.tmp 49, .tmp 50] _ rfl entimes (vs := #[.agg #[.int .i64 k1, .bool s1, .slice p1 L1 C1, .int .i64 e1, .bool m1], .agg #[.int .i64 k4, .bool s4, .slice p4 L4 C4, .int .i64 e4, .bool m4]]) (by simp [Act.eval, Act.put])) (G := fun u x' => Dn x' u (opT .mul (wideW s) (wideW da)) ∧ Q x0 x') ((times_dn _ _ (wideW s) (wideW da) x0 D1 D4).mono fun e' w' ⟨v, a, b, c⟩ => ⟨v, a, b, c⟩) ?_
  rintro u1 x1 ⟨hu1, q1⟩
  have D1 := D1.next q1
  have D2 := D2.next q1
  have D3 := D3.next q1
  have D4 := D4.next q1
  have q1 := q0.trans q1
  refine ⟨q1, ?_⟩
  refine tree_call 5 rfl rfl (run_fn 33 #[.tmp 53] _ rfl enrest (vs := #[.agg #[.int .i64 k2, .bool s2, .slice p2 L2 C2, .int .i64 e2, .bool m2]]) (by simp [Act.eval, Act.put])) (G := fun u x' => Dn x' u (rsT (wideW sa)) ∧ Q x1 x') ((rest_dn _ (wideW sa) x1 D2).mono fun e' w' ⟨v, a, b, c⟩ => ⟨v, a, b, c⟩) ?_
  rintro u2 x2 ⟨hu2, q2⟩
  have D1 := D1.next q2
  have D2 := D2.next q2
  have D3 := D3.next q2
  have D4 := D4.next q2
  have hu1 := hu1.next q2
  have q2 := q1.trans q2
  refine ⟨q2, ?_⟩
  refine tree_call 6 rfl rfl (run_fn 32 #[.tmp 52, .tmp 54] _ rfl entimes (vs := #[.agg #[.int .i64 k3, .bool s3, .slice p3 L3 C3, .int .i64 e3, .bool m3], u2]) (by simp [Act.eval, Act.put])) (G := fun u x' => Dn x' u (opT .mul (wideW d) (rsT (wideW sa))) ∧ Q x2 x') ((times_dn _ _ (wideW d) (rsT (wideW sa)) x2 D3 hu2).mono fun e' w' ⟨v, a, b, c⟩ => ⟨v, a, b, c⟩) ?_
  rintro u3 x3 ⟨hu3, q3⟩
  have D1 := D1.next q3
  have D2 := D2.next q3
  have D3 := D3.next q3
  have D4 := D4.next q3
  have hu1 := hu1.next q3
  have hu2 := hu2.next q3
  have q3 := q2.trans q3
  refine ⟨q3, ?_⟩
  refine tree_call 7 rfl rfl (run_fn 31 #[.tmp 51, .tmp 55] _ rfl enplus (vs := #[u1, u3]) (by simp [Act.eval, Act.put])) (G := fun u x' => Dn x' u (opT .add (opT .mul (wideW s) (wideW da)) (opT .mul (wideW d) (rsT (wideW sa)))) ∧ Q x3 x') ((plus_dn _ _ (opT .mul (wideW s) (wideW da)) (opT .mul (wideW d) (rsT (wideW sa))) x3 hu1 hu3).mono fun e' w' ⟨v, a, b, c⟩ => ⟨v, a, b, c⟩) ?_
  rintro u4 x4 ⟨hu4, q4⟩
  have D1 := D1.next q4
  have D2 := D2.next q4
  have D3 := D3.next q4
  have D4 := D4.next q4
  have hu1 := hu1.next q4
  have hu2 := hu2.next q4
  have hu3 := hu3.next q4
  have q4 := q3.trans q4
  refine ⟨q4, ?_⟩
  refine tree_call 8 rfl rfl (run_fn 30 #[.tmp 56] _ rfl entold (vs := #[u4]) (by simp [Act.eval, Act.put])) (calls_u2 (told15_any _ (opT .add (opT .mul (wideW s) (wideW da)) (opT .mul (wideW d) (rsT (wideW sa)))) (opT_lt _ _ _) x4 hu4)) ?_
  rintro u x5 ⟨rfl, q5⟩
  have q5 := q4.trans q5
  refine ⟨q5, ?_⟩
  refine tree_runF 9 rfl rfl rfl (v := .int .u32 (narW (opT .add (opT .mul (wideW s) (wideW da)) (opT .mul (wideW d) (rsT (wideW sa)))) : Nat)) (x' := x5) (by simp [execOp, go_sem]) ?_
  refine tree_runF 10 rfl rfl rfl (v := .int .i64 0) (x' := x5) (by simp [execOp, go_sem]) ?_
  refine tree_nil ?_
  have HQ : Hid (Q w x5) := HQ.out.trans q5
  go_wp2_with fail
  refine bodyPost_ret (v := .tuple #[.int .u32 (narW (opT .add (opT .mul (wideW s) (wideW da)) (opT .mul (wideW d) (rsT (wideW sa)))) : Nat), .int .i64 0]) (by simp [results, Tryz.results8, go_sem, Act.put]) rfl ⟨rfl, HQ.out⟩
set_option maxHeartbeats 4000000 in
set_option maxRecDepth 100000 in
theorem rone_5 (s sa d da : Nat) (hs : s < 4294967296) (ha : sa < 4294967296) (hd : d < 4294967296) (hb : da < 4294967296) (w : World) :
    Calls Tryz.prog 8 #[.int .i64 5, .int .u32 (s : Int), .int .u32 (sa : Int), .int .u32 (d : Int), .int .u32 (da : Int)] w fun e w' => e = .returned (.tuple #[.int .u32 (mxV 5 s sa d da : Nat), .int .i64 0]) ∧ Q w w' := by
  have HS : Hid (s < 4294967296 ∧ sa < 4294967296 ∧ d < 4294967296 ∧ da < 4294967296) := ⟨hs, ha, hd, hb⟩
  clear hs ha hd hb
  rw [mxV_5]
  have ennum := enters_of Tryz.func29 (by kernel_rfl) rfl
  have enrest := enters_of Tryz.func33 (by kernel_rfl) rfl
  have entimes := enters_of Tryz.func32 (by kernel_rfl) rfl
  have enplus := enters_of Tryz.func31 (by kernel_rfl) rfl
  have entold := enters_of Tryz.func30 (by kernel_rfl) rfl
  go_enter Tryz.func8, Tryz.ntmps8
  go_wp2_with fail
  refine (num15_any s HS.out.1 _).mono ?_
  rintro e' w1 ⟨v, rfl, h1, q1⟩
  obtain ⟨k1, s1, p1, L1, C1, e1, m1, rfl⟩ := NumAt.made h1
  have H1 : Hid (Dn w1 _ (wideW s)) := h1
  have HQ : Hid (Q w w1) := q1
  clear h1 q1
  go_wp2_with fail
  refine (num15_any sa HS.out.2.1 _).mono ?_
  rintro e' w2 ⟨v, rfl, h2, q2⟩
  obtain ⟨k2, s2, p2, L2, C2, e2, m2, rfl⟩ := NumAt.made h2
  have H2 : Hid (Dn w2 _ (wideW sa)) := h2
  have H1 : Hid (Dn w2 _ (wideW s)) := H1.out.next q2
  have HQ : Hid (Q w w2) := HQ.out.trans q2
  clear h2 q2
  go_wp2_with fail
  refine (num15_any d HS.out.2.2.1 _).mono ?_
  rintro e' w3 ⟨v, rfl, h3, q3⟩
  obtain ⟨k3, s3, p3, L3, C3, e3, m3, rfl⟩ := NumAt.made h3
  have H3 : Hid (Dn w3 _ (wideW d)) := h3
  have H1 : Hid (Dn w3 _ (wideW s)) := H1.out.next q3
  have H2 : Hid (Dn w3 _ (wideW sa)) := H2.out.next q3
  have HQ : Hid (Q w w3) := HQ.out.trans q3
  clear h3 q3
  go_wp2_with fail
  refine (num15_any da HS.out.2.2.2 _).mono ?_
  rintro e' w4 ⟨v, rfl, h4, q4⟩
  obtain ⟨k4, s4, p4, L4, C4, e4, m4, rfl⟩ := NumAt.made h4
  have H4 : Hid (Dn w4 _ (wideW da)) := h4
  have H1 : Hid (Dn w4 _ (wideW s)) := H1.out.next q4
  have H2 : Hid (Dn w4 _ (wideW sa)) := H2.out.next q4
  have H3 : Hid (Dn w4 _ (wideW d)) := H3.out.next q4
  have HQ : Hid (Q w w4) := HQ.out.trans q4
  clear h4 q4
  go_wp2_with fail
  have qz : Q w4 ((((w4.alloc (.cells #[.int .i64 k1, .bool s1, .slice p1 L1 C1, .int .i64 e1, .bool m1] 63)).alloc (.cells #[.int .i64 k2, .bool s2, .slice p2 L2 C2, .int .i64 e2, .bool m2] 63)).alloc (.cells #[.int .i64 k3, .bool s3, .slice p3 L3 C3, .int .i64 e3, .bool m3] 63)).alloc (.cells #[.int .i64 k4, .bool s4, .slice p4 L4 C4, .int .i64 e4, .bool m4] 63)) := ((((Q.refl w4).cells _ _).cells _ _).cells _ _).cells _ _
  have f1_0 : ((((w4.alloc (.cells #[.int .i64 k1, .bool s1, .slice p1 L1 C1, .int .i64 e1, .bool m1] 63)).alloc (.cells #[.int .i64 k2, .bool s2, .slice p2 L2 C2, .int .i64 e2, .bool m2] 63)).alloc (.cells #[.int .i64 k3, .bool s3, .slice p3 L3 C3, .int .i64 e3, .bool m3] 63)).alloc (.cells #[.int .i64 k4, .bool s4, .slice p4 L4 C4, .int .i64 e4, .bool m4] 63)).cell? ⟨w4.heap.size, 0, none⟩ = some (.int .i64 k1) := by simp [go_sem]
  have f1_1 : ((((w4.alloc (.cells #[.int .i64 k1, .bool s1, .slice p1 L1 C1, .int .i64 e1, .bool m1] 63)).alloc (.cells #[.int .i64 k2, .bool s2, .slice p2 L2 C2, .int .i64 e2, .bool m2] 63)).alloc (.cells #[.int .i64 k3, .bool s3, .slice p3 L3 C3, .int .i64 e3, .bool m3] 63)).alloc (.cells #[.int .i64 k4, .bool s4, .slice p4 L4 C4, .int .i64 e4, .bool m4] 63)).cell? ⟨w4.heap.size, 1, none⟩ = some (.bool s1) := by simp [go_sem]
  have f1_2 : ((((w4.alloc (.cells #[.int .i64 k1, .bool s1, .slice p1 L1 C1, .int .i64 e1, .bool m1] 63)).alloc (.cells #[.int .i64 k2, .bool s2, .slice p2 L2 C2, .int .i64 e2, .bool m2] 63)).alloc (.cells #[.int .i64 k3, .bool s3, .slice p3 L3 C3, .int .i64 e3, .bool m3] 63)).alloc (.cells #[.int .i64 k4, .bool s4, .slice p4 L4 C4, .int .i64 e4, .bool m4] 63)).cell? ⟨w4.heap.size, 2, none⟩ = some (.slice p1 L1 C1) := by simp [go_sem]
  have f1_3 : ((((w4.alloc (.cells #[.int .i64 k1, .bool s1, .slice p1 L1 C1, .int .i64 e1, .bool m1] 63)).alloc (.cells #[.int .i64 k2, .bool s2, .slice p2 L2 C2, .int .i64 e2, .bool m2] 63)).alloc (.cells #[.int .i64 k3, .bool s3, .slice p3 L3 C3, .int .i64 e3, .bool m3] 63)).alloc (.cells #[.int .i64 k4, .bool s4, .slice p4 L4 C4, .int .i64 e4, .bool m4] 63)).cell? ⟨w4.heap.size, 3, none⟩ = some (.int .i64 e1) := by simp [go_sem]
  have f1_4 : ((((w4.alloc (.cells #[.int .i64 k1, .bool s1, .slice p1 L1 C1, .int .i64 e1, .bool m1] 63)).alloc (.cells #[.int .i64 k2, .bool s2, .slice p2 L2 C2, .int .i64 e2, .bool m2] 63)).alloc (.cells #[.int .i64 k3, .bool s3, .slice p3 L3 C3, .int .i64 e3, .bool m3] 63)).alloc (.cells #[.int .i64 k4, .bool s4, .slice p4 L4 C4, .int .i64 e4, .bool m4] 63)).cell? ⟨w4.heap.size, 4, none⟩ = some (.bool m1) := by simp [go_sem]
  have f2_0 : ((((w4.alloc (.cells #[.int .i64 k1, .bool s1, .slice p1 L1 C1, .int .i64 e1, .bool m1] 63)).alloc (.cells #[.int .i64 k2, .bool s2, .slice p2 L2 C2, .int .i64 e2, .bool m2] 63)).alloc (.cells #[.int .i64 k3, .bool s3, .slice p3 L3 C3, .int .i64 e3, .bool m3] 63)).alloc (.cells #[.int .i64 k4, .bool s4, .slice p4 L4 C4, .int .i64 e4, .bool m4] 63)).cell? ⟨w4.heap.size + 1, 0, none⟩ = some (.int .i64 k2) := by simp [go_sem]
  have f2_1 : ((((w4.alloc (.cells #[.int .i64 k1, .bool s1, .slice p1 L1 C1, .int .i64 e1, .bool m1] 63)).alloc (.cells #[.int .i64 k2, .bool s2, .slice p2 L2 C2, .int .i64 e2, .bool m2] 63)).alloc (.cells #[.int .i64 k3, .bool s3, .slice p3 L3 C3, .int .i64 e3, .bool m3] 63)).alloc (.cells #[.int .i64 k4, .bool s4, .slice p4 L4 C4, .int .i64 e4, .bool m4] 63)).cell? ⟨w4.heap.size + 1, 1, none⟩ = some (.bool s2) := by simp [go_sem]
  have f2_2 : ((((w4.alloc (.cells #[.int .i64 k1, .bool s1, .slice p1 L1 C1, .int .i64 e1, .bool m1] 63)).alloc (.cells #[.int .i64 k2, .bool s2, .slice p2 L2 C2, .int .i64 e2, .bool m2] 63)).alloc (.cells #[.int .i64 k3, .bool s3, .slice p3 L3 C3, .int .i64 e3, .bool m3] 63)).alloc (.cells #[.int .i64 k4, .bool s4, .slice p4 L4 C4, .int .i64 e4, .bool m4] 63)).cell? ⟨w4.heap.size + 1, 2, none⟩ = some (.slice p2 L2 C2) := by simp [go_sem]
  have f2_3 : ((((w4.alloc (.cells #[.int .i64 k1, .bool s1, .slice p1 L1 C1, .int .i64 e1, .bool m1] 63)).alloc (.cells #[.int .i64 k2, .bool s2, .slice p2 L2 C2, .int .i64 e2, .bool m2] 63)).alloc (.cells #[.int .i64 k3, .bool s3, .slice p3 L3 C3, .int .i64 e3, .bool m3] 63)).alloc (.cells #[.int .i64 k4, .bool s4, .slice p4 L4 C4, .int .i64 e4, .bool m4] 63)).cell? ⟨w4.heap.size + 1, 3, none⟩ = some (.int .i64 e2) := by simp [go_sem]
  have f2_4 : ((((w4.alloc (.cells #[.int .i64 k1, .bool s1, .slice p1 L1 C1, .int .i64 e1, .bool m1] 63)).alloc (.cells #[.int .i64 k2, .bool s2, .slice p2 L2 C2, .int .i64 e2, .bool m2] 63)).alloc (.cells #[.int .i64 k3, .bool s3, .slice p3 L3 C3, .int .i64 e3, .bool m3] 63)).alloc (.cells #[.int .i64 k4, .bool s4, .slice p4 L4 C4, .int .i64 e4, .bool m4] 63)).cell? ⟨w4.heap.size + 1, 4, none⟩ = some (.bool m2) := by simp [go_sem]
  have f3_0 : ((((w4.alloc (.cells #[.int .i64 k1, .bool s1, .slice p1 L1 C1, .int .i64 e1, .bool m1] 63)).alloc (.cells #[.int .i64 k2, .bool s2, .slice p2 L2 C2, .int .i64 e2, .bool m2] 63)).alloc (.cells #[.int .i64 k3, .bool s3, .slice p3 L3 C3, .int .i64 e3, .bool m3] 63)).alloc (.cells #[.int .i64 k4, .bool s4, .slice p4 L4 C4, .int .i64 e4, .bool m4] 63)).cell? ⟨w4.heap.size + 1 + 1, 0, none⟩ = some (.int .i64 k3) := by simp [go_sem]
  have f3_1 : ((((w4.alloc (.cells #[.int .i64 k1, .bool s1, .slice p1 L1 C1, .int .i64 e1, .bool m1] 63)).alloc (.cells #[.int .i64 k2, .bool s2, .slice p2 L2 C2, .int .i64 e2, .bool m2] 63)).alloc (.cells #[.int .i64 k3, .bool s3, .slice p3 L3 C3, .int .i64 e3, .bool m3] 63)).alloc (.cells #[.int .i64 k4, .bool s4, .slice p4 L4 C4, .int .i64 e4, .bool m4] 63)).cell? ⟨w4.heap.size + 1 + 1, 1, none⟩ = some (.bool s3) := by simp [go_sem]
  have f3_2 : ((((w4.alloc (.cells #[.int .i64 k1, .bool s1, .slice p1 L1 C1, .int .i64 e1, .bool m1] 63)).alloc (.cells #[.int .i64 k2, .bool s2, .slice p2 L2 C2, .int .i64 e2, .bool m2] 63)).alloc (.cells #[.int .i64 k3, .bool s3, .slice p3 L3 C3, .int .i64 e3, .bool m3] 63)).alloc (.cells #[.int .i64 k4, .bool s4, .slice p4 L4 C4, .int .i64 e4, .bool m4] 63)).cell? ⟨w4.heap.size + 1 + 1, 2, none⟩ = some (.slice p3 L3 C3) := by simp [go_sem]
  have f3_3 : ((((w4.alloc (.cells #[.int .i64 k1, .bool s1, .slice p1 L1 C1, .int .i64 e1, .bool m1] 63)).alloc (.cells #[.int .i64 k2, .bool s2, .slice p2 L2 C2, .int .i64 e2, .bool m2] 63)).alloc (.cells #[.int .i64 k3, .bool s3, .slice p3 L3 C3, .int .i64 e3, .bool m3] 63)).alloc (.cells #[.int .i64 k4, .bool s4, .slice p4 L4 C4, .int .i64 e4, .bool m4] 63)).cell? ⟨w4.heap.size + 1 + 1, 3, none⟩ = some (.int .i64 e3) := by simp [go_sem]
  have f3_4 : ((((w4.alloc (.cells #[.int .i64 k1, .bool s1, .slice p1 L1 C1, .int .i64 e1, .bool m1] 63)).alloc (.cells #[.int .i64 k2, .bool s2, .slice p2 L2 C2, .int .i64 e2, .bool m2] 63)).alloc (.cells #[.int .i64 k3, .bool s3, .slice p3 L3 C3, .int .i64 e3, .bool m3] 63)).alloc (.cells #[.int .i64 k4, .bool s4, .slice p4 L4 C4, .int .i64 e4, .bool m4] 63)).cell? ⟨w4.heap.size + 1 + 1, 4, none⟩ = some (.bool m3) := by simp [go_sem]
  have f4_0 : ((((w4.alloc (.cells #[.int .i64 k1, .bool s1, .slice p1 L1 C1, .int .i64 e1, .bool m1] 63)).alloc (.cells #[.int .i64 k2, .bool s2, .slice p2 L2 C2, .int .i64 e2, .bool m2] 63)).alloc (.cells #[.int .i64 k3, .bool s3, .slice p3 L3 C3, .int .i64 e3, .bool m3] 63)).alloc (.cells #[.int .i64 k4, .bool s4, .slice p4 L4 C4, .int .i64 e4, .bool m4] 63)).cell? ⟨w4.heap.size + 1 + 1 + 1, 0, none⟩ = some (.int .i64 k4) := by simp [go_sem]
  have f4_1 : ((((w4.alloc (.cells #[.int .i64 k1, .bool s1, .slice p1 L1 C1, .int .i64 e1, .bool m1] 63)).alloc (.cells #[.int .i64 k2, .bool s2, .slice p2 L2 C2, .int .i64 e2, .bool m2] 63)).alloc (.cells #[.int .i64 k3, .bool s3, .slice p3 L3 C3, .int .i64 e3, .bool m3] 63)).alloc (.cells #[.int .i64 k4, .bool s4, .slice p4 L4 C4, .int .i64 e4, .bool m4] 63)).cell? ⟨w4.heap.size + 1 + 1 + 1, 1, none⟩ = some (.bool s4) := by simp [go_sem]
  have f4_2 : ((((w4.alloc (.cells #[.int .i64 k1, .bool s1, .slice p1 L1 C1, .int .i64 e1, .bool m1] 63)).alloc (.cells #[.int .i64 k2, .bool s2, .slice p2 L2 C2, .int .i64 e2, .bool m2] 63)).alloc (.cells #[.int .i64 k3, .bool s3, .slice p3 L3 C3, .int .i64 e3, .bool m3] 63)).alloc (.cells #[.int .i64 k4, .bool s4, .slice p4 L4 C4, .int .i64 e4, .bool m4] 63)).cell? ⟨w4.heap.size + 1 + 1 + 1, 2, none⟩ = some (.slice p4 L4 C4) := by simp [go_sem]
  have f4_3 : ((((w4.alloc (.cells #[.int .i64 k1, .bool s1, .slice p1 L1 C1, .int .i64 e1, .bool m1] 63)).alloc (.cells #[.int .i64 k2, .bool s2, .slice p2 L2 C2, .int .i64 e2, .bool m2] 63)).alloc (.cells #[.int .i64 k3, .bool s3, .slice p3 L3 C3, .int .i64 e3, .bool m3] 63)).alloc (.cells #[.int .i64 k4, .bool s4, .slice p4 L4 C4, .int .i64 e4, .bool m4] 63)).cell? ⟨w4.heap.size + 1 + 1 + 1, 3, none⟩ = some (.int .i64 e4) := by simp [go_sem]
  have f4_4 : ((((w4.alloc (.cells #[.int .i64 k1, .bool s1, .slice p1 L1 C1, .int .i64 e1, .bool m1] 63)).alloc (.cells #[.int .i64 k2, .bool s2, .slice p2 L2 C2, .int .i64 e2, .bool m2] 63)).alloc (.cells #[.int .i64 k3, .bool s3, .slice p3 L3 C3, .int .i64 e3, .bool m3] 63)).alloc (.cells #[.int .i64 k4, .bool s4, .slice p4 L4 C4, .int .i64 e4, .bool m4] 63)).cell? ⟨w4.heap.size + 1 + 1 + 1, 4, none⟩ = some (.bool m4) := by simp [go_sem]
  have H1 : Hid (Dn ((((w4.alloc (.cells #[.int .i64 k1, .bool s1, .slice p1 L1 C1, .int .i64 e1, .bool m1] 63)).alloc (.cells #[.int .i64 k2, .bool s2, .slice p2 L2 C2, .int .i64 e2, .bool m2] 63)).alloc (.cells #[.int .i64 k3, .bool s3, .slice p3 L3 C3, .int .i64 e3, .bool m3] 63)).alloc (.cells #[.int .i64 k4, .bool s4, .slice p4 L4 C4, .int .i64 e4, .bool m4] 63)) _ (wideW s)) := H1.out.next qz
  have H2 : Hid (Dn ((((w4.alloc (.cells #[.int .i64 k1, .bool s1, .slice p1 L1 C1, .int .i64 e1, .bool m1] 63)).alloc (.cells #[.int .i64 k2, .bool s2, .slice p2 L2 C2, .int .i64 e2, .bool m2] 63)).alloc (.cells #[.int .i64 k3, .bool s3, .slice p3 L3 C3, .int .i64 e3, .bool m3] 63)).alloc (.cells #[.int .i64 k4, .bool s4, .slice p4 L4 C4, .int .i64 e4, .bool m4] 63)) _ (wideW sa)) := H2.out.next qz
  have H3 : Hid (Dn ((((w4.alloc (.cells #[.int .i64 k1, .bool s1, .slice p1 L1 C1, .int .i64 e1, .bool m1] 63)).alloc (.cells #[.int .i64 k2, .bool s2, .slice p2 L2 C2, .int .i64 e2, .bool m2] 63)).alloc (.cells #[.int .i64 k3, .bool s3, .slice p3 L3 C3, .int .i64 e3, .bool m3] 63)).alloc (.cells #[.int .i64 k4, .bool s4, .slice p4 L4 C4, .int .i64 e4, .bool m4] 63)) _ (wideW d)) := H3.out.next qz
  have H4 : Hid (Dn ((((w4.alloc (.cells #[.int .i64 k1, .bool s1, .slice p1 L1 C1, .int .i64 e1, .bool m1] 63)).alloc (.cells #[.int .i64 k2, .bool s2, .slice p2 L2 C2, .int .i64 e2, .bool m2] 63)).alloc (.cells #[.int .i64 k3, .bool s3, .slice p3 L3 C3, .int .i64 e3, .bool m3] 63)).alloc (.cells #[.int .i64 k4, .bool s4, .slice p4 L4 C4, .int .i64 e4, .bool m4] 63)) _ (wideW da)) := H4.out.next qz
  have HQ : Hid (Q w ((((w4.alloc (.cells #[.int .i64 k1, .bool s1, .slice p1 L1 C1, .int .i64 e1, .bool m1] 63)).alloc (.cells #[.int .i64 k2, .bool s2, .slice p2 L2 C2, .int .i64 e2, .bool m2] 63)).alloc (.cells #[.int .i64 k3, .bool s3, .slice p3 L3 C3, .int .i64 e3, .bool m3] 63)).alloc (.cells #[.int .i64 k4, .bool s4, .slice p4 L4 C4, .int .i64 e4, .bool m4] 63))) := HQ.out.trans qz
  have f1_0 := qw_cell f1_0
  have f1_1 := qw_cell f1_1
  have f1_2 := qw_cell f1_2
  have f1_3 := qw_cell f1_3
  have f1_4 := qw_cell f1_4
  have f2_0 := qw_cell f2_0
  have f2_1 := qw_cell f2_1
  have f2_2 := qw_cell f2_2
  have f2_3 := qw_cell f2_3
  have f2_4 := qw_cell f2_4
  have f3_0 := qw_cell f3_0
  have f3_1 := qw_cell f3_1
  have f3_2 := qw_cell f3_2
  have f3_3 := qw_cell f3_3
  have f3_4 := qw_cell f3_4
  have f4_0 := qw_cell f4_0
  have f4_1 := qw_cell f4_1
  have f4_2 := qw_cell f4_2
  have f4_3 := qw_cell f4_3
  have f4_4 := qw_cell f4_4
  have n0 := qw_some ((((w4.alloc (.cells #[.int .i64 k1, .bool s1, .slice p1 L1 C1, .int .i64 e1, .bool m1] 63)).alloc (.cells #[.int .i64 k2, .bool s2, .slice p2 L2 C2, .int .i64 e2, .bool m2] 63)).alloc (.cells #[.int .i64 k3, .bool s3, .slice p3 L3 C3, .int .i64 e3, .bool m3] 63)).alloc (.cells #[.int .i64 k4, .bool s4, .slice p4 L4 C4, .int .i64 e4, .bool m4] 63))
  clear qz
  generalize (((w4.alloc (.cells #[.int .i64 k1, .bool s1, .slice p1 L1 C1, .int .i64 e1, .bool m1] 63)).alloc (.cells #[.int .i64 k2, .bool s2, .slice p2 L2 C2, .int .i64 e2, .bool m2] 63)).alloc (.cells #[.int .i64 k3, .bool s3, .slice p3 L3 C3, .int .i64 e3, .bool m3] 63)).alloc (.cells #[.int .i64 k4, .bool s4, .slice p4 L4 C4, .int .i64 e4, .bool m4] 63) = wz at *
  refine wp_region_mk [0, 1, 4, 5] [[2, 3, 6, 7, 8, 9, 10, 11]] 8 _ (by kernel_rfl) (by kernel_rfl) rfl (by kernel_rfl) ?_
  simp only [List.filterMap_cons, List.filterMap_nil, List.getElem?_cons_zero, List.getElem?_cons_succ]
  repeat (first | go_big_quiet_step (fail) | quiet_step (fail))
  refine wpQuiet_nil ?_
  intro x0 q0
  clear f1_0 f1_1 f1_2 f1_3 f1_4 f2_0 f2_1 f2_2 f2_3 f2_4 f3_0 f3_1 f3_2 f3_3 f3_4 f4_0 f4_1 f4_2 f4_3 f4_4 n0
  have D1 := H1.out.next q0
  have D2 := H2.out.next q0
  have D3 := H3.out.next q0
  have D4 := H4.out.next q0
  refine tree_call 2 rfl rfl (run_fn 33 #[.tmp 61] _ rfl enrest (vs := #[.agg #[.int .i64 k4, .bool s4, .slice p4 L4 C4, .int .i64 e4, .bool m4]]) (by simp [Act.eval, Act.put])) (G := fun u x' => Dn x' u (rsT (wideW da)) ∧ Q x0 x') ((rest_dn _ (wideW da) x0 D4).mono fun e' w' ⟨v, a, b, c⟩ => ⟨v, a, b, c⟩) ?_
  rintro u1 x1 ⟨hu1, q1⟩
  have D1 := D1.next q1
  have D2 := D2.next q1
  have D3 := D3.next q1
  have D4 := D4.next q1
  have q1 := q0.trans q1
  refine ⟨q1, ?_⟩
  refine tree_call 3 rfl rfl (run_fn 32 #[.tmp 60, .tmp 62] _ rfl entimes (vs := #[.agg #[.int .i64 k1, .bool s1, .slice p1 L1 C1, .int .i64 e1, .bool m1], u1]) (by simp [Act.eval, Act.put])) (G := fun u x' => Dn x' u (opT .mul (wideW s) (rsT (wideW da))) ∧ Q x1 x') ((times_dn _ _ (wideW s) (rsT (wideW da)) x1 D1 hu1).mono fun e' w' ⟨v, a, b, c⟩ => ⟨v, a, b, c⟩) ?_
  rintro u2 x2 ⟨hu2, q2⟩
  have D1 := D1.next q2
  have D2 := D2.next q2
  have D3 := D3.next q2
  have D4 := D4.next q2
  have hu1 := hu1.next q2
  have q2 := q1.trans q2
  refine ⟨q2, ?_⟩
  refine tree_call 6 rfl rfl (run_fn 33 #[.tmp 65] _ rfl enrest (vs := #[.agg #[.int .i64 k2, .bool s2, .slice p2 L2 C2, .int .i64 e2, .bool m2]]) (by simp [Act.eval, Act.put])) (G := fun u x' => Dn x' u (rsT (wideW sa)) ∧ Q x2 x') ((rest_dn _ (wideW sa) x2 D2).mono fun e' w' ⟨v, a, b, c⟩ => ⟨v, a, b, c⟩) ?_
  rintro u3 x3 ⟨hu3, q3⟩
  have D1 := D1.next q3
  have D2 := D2.next q3
  have D3 := D3.next q3
  have D4 := D4.next q3
  have hu1 := hu1.next q3
  have hu2 := hu2.next q3
  have q3 := q2.trans q3
  refine ⟨q3, ?_⟩
  refine tree_call 7 rfl rfl (run_fn 32 #[.tmp 64, .tmp 66] _ rfl entimes (vs := #[.agg #[.int .i64 k3, .bool s3, .slice p3 L3 C3, .int .i64 e3, .bool m3], u3]) (by simp [Act.eval, Act.put])) (G := fun u x' => Dn x' u (opT .mul (wideW d) (rsT (wideW sa))) ∧ Q x3 x') ((times_dn _ _ (wideW d) (rsT (wideW sa)) x3 D3 hu3).mono fun e' w' ⟨v, a, b, c⟩ => ⟨v, a, b, c⟩) ?_
  rintro u4 x4 ⟨hu4, q4⟩
  have D1 := D1.next q4
  have D2 := D2.next q4
  have D3 := D3.next q4
  have D4 := D4.next q4
  have hu1 := hu1.next q4
  have hu2 := hu2.next q4
  have hu3 := hu3.next q4
  have q4 := q3.trans q4
  refine ⟨q4, ?_⟩
  refine tree_call 8 rfl rfl (run_fn 31 #[.tmp 63, .tmp 67] _ rfl enplus (vs := #[u2, u4]) (by simp [Act.eval, Act.put])) (G := fun u x' => Dn x' u (opT .add (opT .mul (wideW s) (rsT (wideW da))) (opT .mul (wideW d) (rsT (wideW sa)))) ∧ Q x4 x') ((plus_dn _ _ (opT .mul (wideW s) (rsT (wideW da))) (opT .mul (wideW d) (rsT (wideW sa))) x4 hu2 hu4).mono fun e' w' ⟨v, a, b, c⟩ => ⟨v, a, b, c⟩) ?_
  rintro u5 x5 ⟨hu5, q5⟩
  have D1 := D1.next q5
  have D2 := D2.next q5
  have D3 := D3.next q5
  have D4 := D4.next q5
  have hu1 := hu1.next q5
  have hu2 := hu2.next q5
  have hu3 := hu3.next q5
  have hu4 := hu4.next q5
  have q5 := q4.trans q5
  refine ⟨q5, ?_⟩
  refine tree_call 9 rfl rfl (run_fn 30 #[.tmp 68] _ rfl entold (vs := #[u5]) (by simp [Act.eval, Act.put])) (calls_u2 (told15_any _ (opT .add (opT .mul (wideW s) (rsT (wideW da))) (opT .mul (wideW d) (rsT (wideW sa)))) (opT_lt _ _ _) x5 hu5)) ?_
  rintro u x6 ⟨rfl, q6⟩
  have q6 := q5.trans q6
  refine ⟨q6, ?_⟩
  refine tree_runF 10 rfl rfl rfl (v := .int .u32 (narW (opT .add (opT .mul (wideW s) (rsT (wideW da))) (opT .mul (wideW d) (rsT (wideW sa)))) : Nat)) (x' := x6) (by simp [execOp, go_sem]) ?_
  refine tree_runF 11 rfl rfl rfl (v := .int .i64 0) (x' := x6) (by simp [execOp, go_sem]) ?_
  refine tree_nil ?_
  have HQ : Hid (Q w x6) := HQ.out.trans q6
  go_wp2_with fail
  refine bodyPost_ret (v := .tuple #[.int .u32 (narW (opT .add (opT .mul (wideW s) (rsT (wideW da))) (opT .mul (wideW d) (rsT (wideW sa)))) : Nat), .int .i64 0]) (by simp [results, Tryz.results8, go_sem, Act.put]) rfl ⟨rfl, HQ.out⟩
set_option maxHeartbeats 4000000 in
set_option maxRecDepth 100000 in
theorem rone_6 (s sa d da : Nat) (hs : s < 4294967296) (ha : sa < 4294967296) (hd : d < 4294967296) (hb : da < 4294967296) (w : World) :
    Calls Tryz.prog 8 #[.int .i64 6, .int .u32 (s : Int), .int .u32 (sa : Int), .int .u32 (d : Int), .int .u32 (da : Int)] w fun e w' => e = .returned (.tuple #[.int .u32 (mxV 6 s sa d da : Nat), .int .i64 0]) ∧ Q w w' := by
  have HS : Hid (s < 4294967296 ∧ sa < 4294967296 ∧ d < 4294967296 ∧ da < 4294967296) := ⟨hs, ha, hd, hb⟩
  clear hs ha hd hb
  rw [mxV_6]
  have ennum := enters_of Tryz.func29 (by kernel_rfl) rfl
  have enrest := enters_of Tryz.func33 (by kernel_rfl) rfl
  have entimes := enters_of Tryz.func32 (by kernel_rfl) rfl
  have enplus := enters_of Tryz.func31 (by kernel_rfl) rfl
  have entold := enters_of Tryz.func30 (by kernel_rfl) rfl
  go_enter Tryz.func8, Tryz.ntmps8
  go_wp2_with fail
  refine (num15_any s HS.out.1 _).mono ?_
  rintro e' w1 ⟨v, rfl, h1, q1⟩
  obtain ⟨k1, s1, p1, L1, C1, e1, m1, rfl⟩ := NumAt.made h1
  have H1 : Hid (Dn w1 _ (wideW s)) := h1
  have HQ : Hid (Q w w1) := q1
  clear h1 q1
  go_wp2_with fail
  refine (num15_any sa HS.out.2.1 _).mono ?_
  rintro e' w2 ⟨v, rfl, h2, q2⟩
  obtain ⟨k2, s2, p2, L2, C2, e2, m2, rfl⟩ := NumAt.made h2
  have H2 : Hid (Dn w2 _ (wideW sa)) := h2
  have H1 : Hid (Dn w2 _ (wideW s)) := H1.out.next q2
  have HQ : Hid (Q w w2) := HQ.out.trans q2
  clear h2 q2
  go_wp2_with fail
  refine (num15_any d HS.out.2.2.1 _).mono ?_
  rintro e' w3 ⟨v, rfl, h3, q3⟩
  obtain ⟨k3, s3, p3, L3, C3, e3, m3, rfl⟩ := NumAt.made h3
  have H3 : Hid (Dn w3 _ (wideW d)) := h3
  have H1 : Hid (Dn w3 _ (wideW s)) := H1.out.next q3
  have H2 : Hid (Dn w3 _ (wideW sa)) := H2.out.next q3
  have HQ : Hid (Q w w3) := HQ.out.trans q3
  clear h3 q3
  go_wp2_with fail
  refine (num15_any da HS.out.2.2.2 _).mono ?_
  rintro e' w4 ⟨v, rfl, h4, q4⟩
  obtain ⟨k4, s4, p4, L4, C4, e4, m4, rfl⟩ := NumAt.made h4
  have H4 : Hid (Dn w4 _ (wideW da)) := h4
  have H1 : Hid (Dn w4 _ (wideW s)) := H1.out.next q4
  have H2 : Hid (Dn w4 _ (wideW sa)) := H2.out.next q4
  have H3 : Hid (Dn w4 _ (wideW d)) := H3.out.next q4
  have HQ : Hid (Q w w4) := HQ.out.trans q4
  clear h4 q4
  go_wp2_with fail
  have qz : Q w4 ((((w4.alloc (.cells #[.int .i64 k1, .bool s1, .slice p1 L1 C1, .int .i64 e1, .bool m1] 63)).alloc (.cells #[.int .i64 k2, .bool s2, .slice p2 L2 C2, .int .i64 e2, .bool m2] 63)).alloc (.cells #[.int .i64 k3, .bool s3, .slice p3 L3 C3, .int .i64 e3, .bool m3] 63)).alloc (.cells #[.int .i64 k4, .bool s4, .slice p4 L4 C4, .int .i64 e4, .bool m4] 63)) := ((((Q.refl w4).cells _ _).cells _ _).cells _ _).cells _ _
  have H1 : Hid (Dn ((((w4.alloc (.cells #[.int .i64 k1, .bool s1, .slice p1 L1 C1, .int .i64 e1, .bool m1] 63)).alloc (.cells #[.int .i64 k2, .bool s2, .slice p2 L2 C2, .int .i64 e2, .bool m2] 63)).alloc (.cells #[.int .i64 k3, .bool s3, .slice p3 L3 C3, .int .i64 e3, .bool m3] 63)).alloc (.cells #[.int .i64 k4, .bool s4, .slice p4 L4 C4, .int .i64 e4, .bool m4] 63)) _ (wideW s)) := H1.out.next qz
  have H2 : Hid (Dn ((((w4.alloc (.cells #[.int .i64 k1, .bool s1, .slice p1 L1 C1, .int .i64 e1, .bool m1] 63)).alloc (.cells #[.int .i64 k2, .bool s2, .slice p2 L2 C2, .int .i64 e2, .bool m2] 63)).alloc (.cells #[.int .i64 k3, .bool s3, .slice p3 L3 C3, .int .i64 e3, .bool m3] 63)).alloc (.cells #[.int .i64 k4, .bool s4, .slice p4 L4 C4, .int .i64 e4, .bool m4] 63)) _ (wideW sa)) := H2.out.next qz
  have H3 : Hid (Dn ((((w4.alloc (.cells #[.int .i64 k1, .bool s1, .slice p1 L1 C1, .int .i64 e1, .bool m1] 63)).alloc (.cells #[.int .i64 k2, .bool s2, .slice p2 L2 C2, .int .i64 e2, .bool m2] 63)).alloc (.cells #[.int .i64 k3, .bool s3, .slice p3 L3 C3, .int .i64 e3, .bool m3] 63)).alloc (.cells #[.int .i64 k4, .bool s4, .slice p4 L4 C4, .int .i64 e4, .bool m4] 63)) _ (wideW d)) := H3.out.next qz
  have H4 : Hid (Dn ((((w4.alloc (.cells #[.int .i64 k1, .bool s1, .slice p1 L1 C1, .int .i64 e1, .bool m1] 63)).alloc (.cells #[.int .i64 k2, .bool s2, .slice p2 L2 C2, .int .i64 e2, .bool m2] 63)).alloc (.cells #[.int .i64 k3, .bool s3, .slice p3 L3 C3, .int .i64 e3, .bool m3] 63)).alloc (.cells #[.int .i64 k4, .bool s4, .slice p4 L4 C4, .int .i64 e4, .bool m4] 63)) _ (wideW da)) := H4.out.next qz
  have HQ : Hid (Q w ((((w4.alloc (.cells #[.int .i64 k1, .bool s1, .slice p1 L1 C1, .int .i64 e1, .bool m1] 63)).alloc (.cells #[.int .i64 k2, .bool s2, .slice p2 L2 C2, .int .i64 e2, .bool m2] 63)).alloc (.cells #[.int .i64 k3, .bool s3, .slice p3 L3 C3, .int .i64 e3, .bool m3] 63)).alloc (.cells #[.int .i64 k4, .bool s4, .slice p4 L4 C4, .int .i64 e4, .bool m4] 63))) := HQ.out.trans qz
  clear qz
  refine (plus_dn _ _ (wideW s) (wideW d) _ H1.out H3.out).mono ?_
  rintro e' w5 ⟨v5, rfl, h5, q5⟩
  have H5 : Hid (Dn w5 v5 (opT .add (wideW s) (wideW d))) := h5
  have HQ : Hid (Q w w5) := HQ.out.trans q5
  clear h5 q5
  go_wp2_with fail
  refine (told15_any _ (opT .add (wideW s) (wideW d)) (opT_lt _ _ _) _ H5.out).mono ?_
  rintro e' w6 ⟨rfl, q6⟩
  have HQ : Hid (Q w w6) := HQ.out.trans q6
  clear q6
  go_wp2_with fail
  go_ret2
  exact ⟨rfl, HQ.out⟩
set_option maxHeartbeats 4000000 in
set_option maxRecDepth 100000 in
theorem rone_bad (K : Int) (s sa d da : Nat) (hs : s < 4294967296) (ha : sa < 4294967296) (hd : d < 4294967296) (hb : da < 4294967296) (hK : K < 1 ∨ 6 < K) (w : World) :
    Calls Tryz.prog 8 #[.int .i64 K, .int .u32 (s : Int), .int .u32 (sa : Int), .int .u32 (d : Int), .int .u32 (da : Int)] w fun e w' => e = .returned (.tuple #[.int .u32 0, .int .i64 150]) ∧ Q w w' := by
  have HS : Hid (s < 4294967296 ∧ sa < 4294967296 ∧ d < 4294967296 ∧ da < 4294967296) := ⟨hs, ha, hd, hb⟩
  clear hs ha hd hb
  have b1 : (K == 1) = false := by rw [beq_eq_false_iff_ne]; omega
  have b2 : (K == 2) = false := by rw [beq_eq_false_iff_ne]; omega
  have b3 : (K == 3) = false := by rw [beq_eq_false_iff_ne]; omega
  have b4 : (K == 4) = false := by rw [beq_eq_false_iff_ne]; omega
  have b5 : (K == 5) = false := by rw [beq_eq_false_iff_ne]; omega
  have b6 : (K == 6) = false := by rw [beq_eq_false_iff_ne]; omega
  clear hK
  have ennum := enters_of Tryz.func29 (by kernel_rfl) rfl
  have enrest := enters_of Tryz.func33 (by kernel_rfl) rfl
  have entimes := enters_of Tryz.func32 (by kernel_rfl) rfl
  have enplus := enters_of Tryz.func31 (by kernel_rfl) rfl
  have entold := enters_of Tryz.func30 (by kernel_rfl) rfl
  go_enter Tryz.func8, Tryz.ntmps8
  go_wp2_with fail
  refine (num15_any s HS.out.1 _).mono ?_
  rintro e' w1 ⟨v, rfl, h1, q1⟩
  obtain ⟨k1, s1, p1, L1, C1, e1, m1, rfl⟩ := NumAt.made h1
  have H1 : Hid (Dn w1 _ (wideW s)) := h1
  have HQ : Hid (Q w w1) := q1
  clear h1 q1
  go_wp2_with fail
  refine (num15_any sa HS.out.2.1 _).mono ?_
  rintro e' w2 ⟨v, rfl, h2, q2⟩
  obtain ⟨k2, s2, p2, L2, C2, e2, m2, rfl⟩ := NumAt.made h2
  have H2 : Hid (Dn w2 _ (wideW sa)) := h2
  have H1 : Hid (Dn w2 _ (wideW s)) := H1.out.next q2
  have HQ : Hid (Q w w2) := HQ.out.trans q2
  clear h2 q2
  go_wp2_with fail
  refine (num15_any d HS.out.2.2.1 _).mono ?_
  rintro e' w3 ⟨v, rfl, h3, q3⟩
  obtain ⟨k3, s3, p3, L3, C3, e3, m3, rfl⟩ := NumAt.made h3
  have H3 : Hid (Dn w3 _ (wideW d)) := h3
  have H1 : Hid (Dn w3 _ (wideW s)) := H1.out.next q3
  have H2 : Hid (Dn w3 _ (wideW sa)) := H2.out.next q3
  have HQ : Hid (Q w w3) := HQ.out.trans q3
  clear h3 q3
  go_wp2_with fail
  refine (num15_any da HS.out.2.2.2 _).mono ?_
  rintro e' w4 ⟨v, rfl, h4, q4⟩
  obtain ⟨k4, s4, p4, L4, C4, e4, m4, rfl⟩ := NumAt.made h4
  have H4 : Hid (Dn w4 _ (wideW da)) := h4
  have H1 : Hid (Dn w4 _ (wideW s)) := H1.out.next q4
  have H2 : Hid (Dn w4 _ (wideW sa)) := H2.out.next q4
  have H3 : Hid (Dn w4 _ (wideW d)) := H3.out.next q4
  have HQ : Hid (Q w w4) := HQ.out.trans q4
  clear h4 q4
  go_wp2_with fail
  go_ret2
  exact ⟨rfl, (((HQ.out.cells _ _).cells _ _).cells _ _).cells _ _⟩
def roneR (K : Int) (s sa d da : Nat) : Value := if 1 ≤ K ∧ K ≤ 6 then .tuple #[.int .u32 (mxV K.toNat s sa d da : Nat), .int .i64 0] else .tuple #[.int .u32 0, .int .i64 150]
theorem rone_any (K : Int) (s sa d da : Nat) (hs : s < 4294967296) (ha : sa < 4294967296) (hd : d < 4294967296) (hb : da < 4294967296) (w : World) :
    Calls Tryz.prog 8 #[.int .i64 K, .int .u32 (s : Int), .int .u32 (sa : Int), .int .u32 (d : Int), .int .u32 (da : Int)] w fun e w' => e = .returned (roneR K s sa d da) ∧ Q w w' := by
  unfold roneR
  by_cases hK : 1 ≤ K ∧ K ≤ 6
  · rw [if_pos hK]
    rcases (by omega : K = 1 ∨ K = 2 ∨ K = 3 ∨ K = 4 ∨ K = 5 ∨ K = 6) with rfl | rfl | rfl | rfl | rfl | rfl
    · exact rone_1 s sa d da hs ha hd hb w
    · exact rone_2 s sa d da hs ha hd hb w
    · exact rone_3 s sa d da hs ha hd hb w
    · exact rone_4 s sa d da hs ha hd hb w
    · exact rone_5 s sa d da hs ha hd hb w
    · exact rone_6 s sa d da hs ha hd hb w
  · rw [if_neg hK]
    exact rone_bad K s sa d da hs ha hd hb (by omega) w
set_option maxHeartbeats 2000000 in
set_option maxRecDepth 100000 in
theorem rstep_any (a b t : Nat) (ha : a < 4294967296) (hb : b < 4294967296) (ht : t < 4294967296) (w : World) :
    Calls Tryz.prog 10 #[.int .u32 (a : Int), .int .u32 (b : Int), .int .u32 (t : Int)] w fun e w' => e = .returned (.int .u32 (mstV a b t : Nat)) ∧ Q w w' := by
  have HS : Hid (a < 4294967296 ∧ b < 4294967296 ∧ t < 4294967296) := ⟨ha, hb, ht⟩
  clear ha hb ht
  go_enter Tryz.func10, Tryz.ntmps10
  go_wp2_with fail
  refine (num15_any a HS.out.1 _).mono ?_
  rintro e' x0 ⟨v0, rfl, h0, q0⟩
  have H0 := hidn h0
  have HQ : Hid (Q w x0) := q0
  clear h0 q0
  go_wp2_with fail
  refine (num15_any t HS.out.2.2 _).mono ?_
  rintro e' x1 ⟨v1, rfl, h1, q1⟩
  have H0 := hidn (H0.out.next q1)
  have H1 := hidn h1
  have HQ : Hid (Q w x1) := HQ.out.trans q1
  clear h1 q1
  go_wp2_with fail
  refine (rest_dn _ (wideW t) _ H1.out).mono ?_
  rintro e' x2 ⟨v2, rfl, h2, q2⟩
  have H0 := hidn (H0.out.next q2)
  have H1 := hidn (H1.out.next q2)
  have H2 := hidn h2
  have HQ : Hid (Q w x2) := HQ.out.trans q2
  clear h2 q2
  go_wp2_with fail
  refine (times_dn _ _ (wideW a) (rsT (wideW t)) _ H0.out H2.out).mono ?_
  rintro e' x3 ⟨v3, rfl, h3, q3⟩
  have H0 := hidn (H0.out.next q3)
  have H1 := hidn (H1.out.next q3)
  have H2 := hidn (H2.out.next q3)
  have H3 := hidn h3
  have HQ : Hid (Q w x3) := HQ.out.trans q3
  clear h3 q3
  go_wp2_with fail
  refine (num15_any b HS.out.2.1 _).mono ?_
  rintro e' x4 ⟨v4, rfl, h4, q4⟩
  have H0 := hidn (H0.out.next q4)
  have H1 := hidn (H1.out.next q4)
  have H2 := hidn (H2.out.next q4)
  have H3 := hidn (H3.out.next q4)
  have H4 := hidn h4
  have HQ : Hid (Q w x4) := HQ.out.trans q4
  clear h4 q4
  go_wp2_with fail
  refine (num15_any t HS.out.2.2 _).mono ?_
  rintro e' x5 ⟨v5, rfl, h5, q5⟩
  have H0 := hidn (H0.out.next q5)
  have H1 := hidn (H1.out.next q5)
  have H2 := hidn (H2.out.next q5)
  have H3 := hidn (H3.out.next q5)
  have H4 := hidn (H4.out.next q5)
  have H5 := hidn h5
  have HQ : Hid (Q w x5) := HQ.out.trans q5
  clear h5 q5
  go_wp2_with fail
  refine (times_dn _ _ (wideW b) (wideW t) _ H4.out H5.out).mono ?_
  rintro e' x6 ⟨v6, rfl, h6, q6⟩
  have H0 := hidn (H0.out.next q6)
  have H1 := hidn (H1.out.next q6)
  have H2 := hidn (H2.out.next q6)
  have H3 := hidn (H3.out.next q6)
  have H4 := hidn (H4.out.next q6)
  have H5 := hidn (H5.out.next q6)
  have H6 := hidn h6
  have HQ : Hid (Q w x6) := HQ.out.trans q6
  clear h6 q6
  go_wp2_with fail
  refine (plus_dn _ _ (opT .mul (wideW a) (rsT (wideW t))) (opT .mul (wideW b) (wideW t)) _ H3.out H6.out).mono ?_
  rintro e' x7 ⟨v7, rfl, h7, q7⟩
  have H0 := hidn (H0.out.next q7)
  have H1 := hidn (H1.out.next q7)
  have H2 := hidn (H2.out.next q7)
  have H3 := hidn (H3.out.next q7)
  have H4 := hidn (H4.out.next q7)
  have H5 := hidn (H5.out.next q7)
  have H6 := hidn (H6.out.next q7)
  have H7 := hidn h7
  have HQ : Hid (Q w x7) := HQ.out.trans q7
  clear h7 q7
  go_wp2_with fail
  refine (told15_any _ (opT .add (opT .mul (wideW a) (rsT (wideW t))) (opT .mul (wideW b) (wideW t))) (opT_lt _ _ _) _ H7.out).mono ?_
  rintro e' x8 ⟨rfl, q8⟩
  have HQ : Hid (Q w x8) := HQ.out.trans q8
  clear q8
  go_wp2_with fail
  go_ret
  exact ⟨rfl, HQ.out⟩
end Go.Proofs.YtkgojnjlfkijiaaGreat
