/- The chapter's examples. -/
import Derived.Test.YtlelgifdnhnphaaGd0b607c9
import Derived.Test.YtlelgifdnhnphaaG0750e2c1
namespace Go.Proofs.Ytlelgifdnhnphaa
open Go.RowKit
set_option linter.unusedVariables false
set_option linter.unusedSimpArgs false

theorem num8_any (e : Int) (w : World) : Calls Try.prog 14 #[.int .i64 e] w fun r w' => r = .returned (.int .i64 e) ∧ w' = w := by
  go_enter Try.func14, Try.ntmps14
  go_wp2_with fail
  go_ret
  exact ⟨rfl, rfl⟩
def kL : List Nat := [1065353216, 1073741824, 1082130432]
def kM (i : Nat) : Nat := if i = 2 ∨ i = 4 ∨ i = 6 then 1065353216 else 0
theorem kM_lt (i : Nat) : kM i < 4294967296 := by unfold kM; split <;> decide
theorem ex_affine : chgL (affineV 1073741824 1065353216) (-1) 0 (kL.map (fun x => [x])) = [1077936128, 1084227584, 1091567616].map (fun x => [x]) := by decide +kernel
theorem ex_matrix : mixL (mixM kM 0) (mixM kM 1) (mixM kM 2) (kL.map (fun x => [x])) = [1082130432, 1073741824, 1065353216].map (fun x => [x]) := by decide +kernel
theorem ex_two : zTo subG (kL.map (fun x => [x])) (kL.map (fun x => [x])) 3 = [0, 0, 0].map (fun x => [x]) := by decide +kernel
theorem ex_between : chgL (boundsV 1069547520 1077936128) (-1) 0 (kL.map (fun x => [x])) = [1069547520, 1073741824, 1077936128].map (fun x => [x]) := by decide +kernel
set_option maxHeartbeats 8000000 in
set_option maxRecDepth 100000 in
theorem known8_any (w : World) : Calls Try.prog 6 #[] w fun e w' => e = .returned (.bool true) ∧ Q w w' := by
  have l1 := num8_any
  go_enter Try.func6, Try.ntmps6
  go_wp2_with fail
  refine (place_any _ 1 w.heap.size 0 3 3 kL (uis3 w 1065353216 1073741824 1082130432) rfl (by decide) (by decide) (fun i => ?_)).mono ?_
  · match i with
    | 0 => show (1065353216 : Nat) < _; decide
    | 1 => show (1073741824 : Nat) < _; decide
    | 2 => show (1082130432 : Nat) < _; decide
    | i + 3 => show (0 : Nat) < _; decide
  rintro e w1 ⟨gp, cp, MP, rfl, hMP, HWP, q1⟩
  have HQ1 : Hid (Q w w1) := ((Q.refl w).cells _ _).trans q1
  have HP1 : Hid (Pc w1 gp 0 1 1 MP) := HWP.out.pc
  have HMP : Hid (MP.map PL.S = kL.map (fun x => [x])) := hMP
  have hlen : MP.length = 3 := by have := congrArg List.length hMP; rw [List.length_map, List.length_map] at this; exact this
  have HL : Hid (MP.length = 3) := hlen
  have hcp : 3 ≤ cp := by have := HWP.out.room; omega
  have sp1 : Hid (spcB 1 ((3 : Nat) : Int) = true) := (by decide : spcB 1 ((3 : Nat) : Int) = true)
  clear q1 hMP HWP hlen
  go_wp2_with fail
  have HP2 : Hid (Pc (w1.alloc (Obj.cells #[Value.int IntKind.i64 1, Value.slice (some { block := gp, off := 0 }) 3 cp] 24)) gp 0 1 1 MP) := HP1.out.next ((Q.refl w1).cells _ _)
  have HQ2 : Hid (Q w (w1.alloc (Obj.cells #[Value.int IntKind.i64 1, Value.slice (some { block := gp, off := 0 }) 3 cp] 24))) := HQ1.out.cells _ _
  have b0 : (w1.alloc (Obj.cells #[Value.int IntKind.i64 1, Value.slice (some { block := gp, off := 0 }) 3 cp] 24)).cell? ⟨w1.heap.size, 0, none⟩ = some (.int .i64 1) := by simp [go_sem]
  have b1 : (w1.alloc (Obj.cells #[Value.int IntKind.i64 1, Value.slice (some { block := gp, off := 0 }) 3 cp] 24)).cell? ⟨w1.heap.size, 1, none⟩ = some (.slice (some ⟨gp, 0, none⟩) 3 cp) := by simp [go_sem]
  generalize (w1.alloc (Obj.cells #[Value.int IntKind.i64 1, Value.slice (some { block := gp, off := 0 }) 3 cp] 24)) = w2 at *
  generalize w1.heap.size = B1 at *
  clear HP1 HQ1
  refine (affine_good 1073741824 1065353216 (by decide) (by decide) w2 1 (-1) gp 0 cp 1 1 3 MP HP2.out HL.out hcp sp1.out (Or.inl rfl)).mono ?_
  rintro e w3 ⟨ga, ca, MA, rfl, hMA, HWMA, q3⟩
  have HMA : Hid (MA.map PL.S = [1077936128, 1084227584, 1091567616].map (fun x => [x])) := by show _ = _; rw [hMA, HMP.out]; exact ex_affine
  have Hc0 : 3 ≤ ca := by have h1 := HWMA.out.room; have h2 := congrArg List.length HMA.out; rw [List.length_map] at h2; simp at h2; omega
  have QN0 : Q w2 (w3.alloc (Obj.cells #[Value.int IntKind.i64 1, Value.slice (some { block := ga, off := 0 }) 3 ca] 24)) := q3.cells _ _
  have HP4 : Hid (Pc (w3.alloc (Obj.cells #[Value.int IntKind.i64 1, Value.slice (some { block := ga, off := 0 }) 3 ca] 24)) gp 0 1 1 MP) := HP2.out.next QN0
  have HQ4 : Hid (Q w (w3.alloc (Obj.cells #[Value.int IntKind.i64 1, Value.slice (some { block := ga, off := 0 }) 3 ca] 24))) := HQ2.out.trans QN0
  have NMA : Hid (PcB [1077936128, 1084227584, 1091567616] w3.heap.size (w3.alloc (Obj.cells #[Value.int IntKind.i64 1, Value.slice (some { block := ga, off := 0 }) 3 ca] 24))) := ⟨ga, ca, MA, by simp [go_sem], by simp [go_sem], Hc0, HWMA.out.pc.next ((Q.refl w3).cells _ _), HMA.out⟩
  replace b0 := QN0.cell b0
  replace b1 := QN0.cell b1
  clear hMA HWMA q3 HMA Hc0 HP2 HQ2
  go_wp2_with fail
  generalize (w3.alloc (Obj.cells #[Value.int IntKind.i64 1, Value.slice (some { block := ga, off := 0 }) 3 ca] 24)) = w4 at *
  generalize w3.heap.size = B2 at *
  clear QN0
  refine (matrix_good kM kM_lt w4 1 gp 0 cp 1 1 3 MP HP4.out HL.out hcp (by decide) sp1.out).mono ?_
  rintro e w5 ⟨gb, cb, MB, rfl, hMB, HWMB, q4⟩
  have HMB : Hid (MB.map PL.S = [1082130432, 1073741824, 1065353216].map (fun x => [x])) := by show _ = _; rw [hMB, HMP.out]; exact ex_matrix
  have Hc1 : 3 ≤ cb := by have h1 := HWMB.out.room; have h2 := congrArg List.length HMB.out; rw [List.length_map] at h2; simp at h2; omega
  have QN1 : Q w4 (w5.alloc (Obj.cells #[Value.int IntKind.i64 1, Value.slice (some { block := gb, off := 0 }) 3 cb] 24)) := q4.cells _ _
  have HP6 : Hid (Pc (w5.alloc (Obj.cells #[Value.int IntKind.i64 1, Value.slice (some { block := gb, off := 0 }) 3 cb] 24)) gp 0 1 1 MP) := HP4.out.next QN1
  have HQ6 : Hid (Q w (w5.alloc (Obj.cells #[Value.int IntKind.i64 1, Value.slice (some { block := gb, off := 0 }) 3 cb] 24))) := HQ4.out.trans QN1
  have NMB : Hid (PcB [1082130432, 1073741824, 1065353216] w5.heap.size (w5.alloc (Obj.cells #[Value.int IntKind.i64 1, Value.slice (some { block := gb, off := 0 }) 3 cb] 24))) := ⟨gb, cb, MB, by simp [go_sem], by simp [go_sem], Hc1, HWMB.out.pc.next ((Q.refl w5).cells _ _), HMB.out⟩
  replace NMA : Hid (PcB [1077936128, 1084227584, 1091567616] B2 (w5.alloc (Obj.cells #[Value.int IntKind.i64 1, Value.slice (some { block := gb, off := 0 }) 3 cb] 24))) := NMA.out.next QN1
  replace b0 := QN1.cell b0
  replace b1 := QN1.cell b1
  clear hMB HWMB q4 HMB Hc1 HP4 HQ4
  go_wp2_with fail
  generalize (w5.alloc (Obj.cells #[Value.int IntKind.i64 1, Value.slice (some { block := gb, off := 0 }) 3 cb] 24)) = w6 at *
  generalize w5.heap.size = B3 at *
  clear QN1
  refine (two_good kind_sub w6 1 gp 0 cp gp 0 cp 1 1 3 MP MP HP6.out HL.out hcp HP6.out HL.out hcp sp1.out).mono ?_
  rintro e w7 ⟨gc, cc, MC, rfl, hMC, HWMC, q5⟩
  have HMC : Hid (MC.map PL.S = [0, 0, 0].map (fun x => [x])) := by show _ = _; rw [hMC, HMP.out]; exact ex_two
  have Hc2 : 3 ≤ cc := by have h1 := HWMC.out.room; have h2 := congrArg List.length HMC.out; rw [List.length_map] at h2; simp at h2; omega
  have QN2 : Q w6 (w7.alloc (Obj.cells #[Value.int IntKind.i64 1, Value.slice (some { block := gc, off := 0 }) 3 cc] 24)) := q5.cells _ _
  have HP8 : Hid (Pc (w7.alloc (Obj.cells #[Value.int IntKind.i64 1, Value.slice (some { block := gc, off := 0 }) 3 cc] 24)) gp 0 1 1 MP) := HP6.out.next QN2
  have HQ8 : Hid (Q w (w7.alloc (Obj.cells #[Value.int IntKind.i64 1, Value.slice (some { block := gc, off := 0 }) 3 cc] 24))) := HQ6.out.trans QN2
  have NMC : Hid (PcB [0, 0, 0] w7.heap.size (w7.alloc (Obj.cells #[Value.int IntKind.i64 1, Value.slice (some { block := gc, off := 0 }) 3 cc] 24))) := ⟨gc, cc, MC, by simp [go_sem], by simp [go_sem], Hc2, HWMC.out.pc.next ((Q.refl w7).cells _ _), HMC.out⟩
  replace NMA : Hid (PcB [1077936128, 1084227584, 1091567616] B2 (w7.alloc (Obj.cells #[Value.int IntKind.i64 1, Value.slice (some { block := gc, off := 0 }) 3 cc] 24))) := NMA.out.next QN2
  replace NMB : Hid (PcB [1082130432, 1073741824, 1065353216] B3 (w7.alloc (Obj.cells #[Value.int IntKind.i64 1, Value.slice (some { block := gc, off := 0 }) 3 cc] 24))) := NMB.out.next QN2
  replace b0 := QN2.cell b0
  replace b1 := QN2.cell b1
  clear hMC HWMC q5 HMC Hc2 HP6 HQ6
  go_wp2_with fail
  generalize (w7.alloc (Obj.cells #[Value.int IntKind.i64 1, Value.slice (some { block := gc, off := 0 }) 3 cc] 24)) = w8 at *
  generalize w7.heap.size = B4 at *
  clear QN2
  refine (bounds_good 1069547520 1077936128 (by decide) (by decide) w8 1 (-1) gp 0 cp 1 1 3 MP HP8.out HL.out hcp sp1.out (Or.inl rfl)).mono ?_
  rintro e w9 ⟨gd, cd, MD, rfl, hMD, HWMD, q6⟩
  have HMD : Hid (MD.map PL.S = [1069547520, 1073741824, 1077936128].map (fun x => [x])) := by show _ = _; rw [hMD, HMP.out]; exact ex_between
  have Hc3 : 3 ≤ cd := by have h1 := HWMD.out.room; have h2 := congrArg List.length HMD.out; rw [List.length_map] at h2; simp at h2; omega
  have QN3 : Q w8 (w9.alloc (Obj.cells #[Value.int IntKind.i64 1, Value.slice (some { block := gd, off := 0 }) 3 cd] 24)) := q6.cells _ _
  have HP10 : Hid (Pc (w9.alloc (Obj.cells #[Value.int IntKind.i64 1, Value.slice (some { block := gd, off := 0 }) 3 cd] 24)) gp 0 1 1 MP) := HP8.out.next QN3
  have HQ10 : Hid (Q w (w9.alloc (Obj.cells #[Value.int IntKind.i64 1, Value.slice (some { block := gd, off := 0 }) 3 cd] 24))) := HQ8.out.trans QN3
  have NMD : Hid (PcB [1069547520, 1073741824, 1077936128] w9.heap.size (w9.alloc (Obj.cells #[Value.int IntKind.i64 1, Value.slice (some { block := gd, off := 0 }) 3 cd] 24))) := ⟨gd, cd, MD, by simp [go_sem], by simp [go_sem], Hc3, HWMD.out.pc.next ((Q.refl w9).cells _ _), HMD.out⟩
  replace NMA : Hid (PcB [1077936128, 1084227584, 1091567616] B2 (w9.alloc (Obj.cells #[Value.int IntKind.i64 1, Value.slice (some { block := gd, off := 0 }) 3 cd] 24))) := NMA.out.next QN3
  replace NMB : Hid (PcB [1082130432, 1073741824, 1065353216] B3 (w9.alloc (Obj.cells #[Value.int IntKind.i64 1, Value.slice (some { block := gd, off := 0 }) 3 cd] 24))) := NMB.out.next QN3
  replace NMC : Hid (PcB [0, 0, 0] B4 (w9.alloc (Obj.cells #[Value.int IntKind.i64 1, Value.slice (some { block := gd, off := 0 }) 3 cd] 24))) := NMC.out.next QN3
  replace b0 := QN3.cell b0
  replace b1 := QN3.cell b1
  clear hMD HWMD q6 HMD Hc3 HP8 HQ8
  go_wp2_with fail
  generalize (w9.alloc (Obj.cells #[Value.int IntKind.i64 1, Value.slice (some { block := gd, off := 0 }) 3 cd] 24)) = w10 at *
  generalize w9.heap.size = B5 at *
  clear QN3
  refine (new8_81 1 2 (a := 1) (b := 1) ⟨by decide, by decide, by decide, by decide, by decide⟩ 0 (by decide) (by decide) w10).mono ?_
  rintro e w11 ⟨rfl, qe0⟩
  have QE0 : Q w10 (w11.alloc (Obj.cells #[Value.int IntKind.i64 0, Value.slice none 0 0] 24)) := qe0.cells _ _
  have HQ12 : Hid (Q w (w11.alloc (Obj.cells #[Value.int IntKind.i64 0, Value.slice none 0 0] 24))) := HQ10.out.trans QE0
  replace NMA : Hid (PcB [1077936128, 1084227584, 1091567616] B2 (w11.alloc (Obj.cells #[Value.int IntKind.i64 0, Value.slice none 0 0] 24))) := NMA.out.next QE0
  replace NMB : Hid (PcB [1082130432, 1073741824, 1065353216] B3 (w11.alloc (Obj.cells #[Value.int IntKind.i64 0, Value.slice none 0 0] 24))) := NMB.out.next QE0
  replace NMC : Hid (PcB [0, 0, 0] B4 (w11.alloc (Obj.cells #[Value.int IntKind.i64 0, Value.slice none 0 0] 24))) := NMC.out.next QE0
  replace NMD : Hid (PcB [1069547520, 1073741824, 1077936128] B5 (w11.alloc (Obj.cells #[Value.int IntKind.i64 0, Value.slice none 0 0] 24))) := NMD.out.next QE0
  clear qe0 HQ10
  clear b0 b1 HP10
  go_wp2_with fail
  generalize (w11.alloc (Obj.cells #[Value.int IntKind.i64 0, Value.slice none 0 0] 24)) = w12 at *
  clear QE0
  refine (new8_80 0 5 1 1 0 (by decide) w12).mono ?_
  rintro e w13 ⟨rfl, qe1⟩
  have QE1 : Q w12 (w13.alloc (Obj.cells #[Value.int IntKind.i64 0, Value.slice none 0 0] 24)) := qe1.cells _ _
  have HQ14 : Hid (Q w (w13.alloc (Obj.cells #[Value.int IntKind.i64 0, Value.slice none 0 0] 24))) := HQ12.out.trans QE1
  replace NMA : Hid (PcB [1077936128, 1084227584, 1091567616] B2 (w13.alloc (Obj.cells #[Value.int IntKind.i64 0, Value.slice none 0 0] 24))) := NMA.out.next QE1
  replace NMB : Hid (PcB [1082130432, 1073741824, 1065353216] B3 (w13.alloc (Obj.cells #[Value.int IntKind.i64 0, Value.slice none 0 0] 24))) := NMB.out.next QE1
  replace NMC : Hid (PcB [0, 0, 0] B4 (w13.alloc (Obj.cells #[Value.int IntKind.i64 0, Value.slice none 0 0] 24))) := NMC.out.next QE1
  replace NMD : Hid (PcB [1069547520, 1073741824, 1077936128] B5 (w13.alloc (Obj.cells #[Value.int IntKind.i64 0, Value.slice none 0 0] 24))) := NMD.out.next QE1
  clear qe1 HQ12
  skip
  go_wp2_with (go_at_call 14; refine (l1 _ _).mono ?_; rintro e w1 ⟨rfl, rfl⟩)
  generalize (w13.alloc (Obj.cells #[Value.int IntKind.i64 0, Value.slice none 0 0] 24)) = w14 at *
  clear QE1
  refine regionKn rfl rfl (V2 := B2) (V4 := B3) (V6 := B4) (V8 := B5) ⟨rfl, rfl, rfl, rfl, NMA.out, NMB.out, NMC.out, NMD.out⟩ ?_
  intro x v0 v1 v2 v5 v6 v7 v11 v12 v13 v17 v18 v19 qx
  have HX : Hid (Q w x) := HQ14.out.trans qx
  clear qx NMA NMB NMC NMD HQ14
  simp only [putAll]
  go_wp2_with fail
  refine bodyPost_ret (v := .bool true) (by simp [results, Try.results6, go_sem]) rfl ⟨rfl, HX.out⟩
end Go.Proofs.Ytlelgifdnhnphaa
/- The chapter's examples: 'known' is true. -/
namespace Go.Proofs.Ytlelgifdnhnphaa
open Go.RowKit
set_option linter.unusedVariables false

theorem k3 {f : FuncId} {args : Array Value} {w : World} {x y z a b c : Nat} (h : Calls Try.prog f args w fun e w' => e = .returned (t3 x y z) ∧ Q w w') (e1 : x = a) (e2 : y = b) (e3 : z = c) :
    Calls Try.prog f args w fun e w' => e = .returned (t3 a b c) ∧ Q w w' := by rw [← e1, ← e2, ← e3]; exact h
theorem k1' {f : FuncId} {args : Array Value} {w : World} {x a : Nat} (h : Calls Try.prog f args w fun e w' => e = .returned (.int .u32 (x : Nat)) ∧ Q w w') (e1 : x = a) :
    Calls Try.prog f args w fun e w' => e = .returned (.int .u32 (a : Nat)) ∧ Q w w' := by rw [← e1]; exact h
theorem k4 {f : FuncId} {args : Array Value} {w : World} {x y z a b c : Nat} {u : Int} (h : Calls Try.prog f args w fun e w' => e = .returned (t4 x y z u) ∧ Q w w') (e1 : x = a) (e2 : y = b) (e3 : z = c) :
    Calls Try.prog f args w fun e w' => e = .returned (t4 a b c u) ∧ Q w w' := by rw [← e1, ← e2, ← e3]; exact h
theorem kconv (w : World) : Calls Try.prog 52 #[.int .i64 1, .int .i64 2, .int .u32 ((1065353216 : Nat) : Int), .int .u32 ((1073741824 : Nat) : Int), .int .u32 ((1082130432 : Nat) : Int)] w fun e w' => e = .returned (t4 1074790400 3196059648 3217031168 0) ∧ Q w w' :=
  k4 (conv_two (by decide) way_1 way_2 1065353216 1073741824 1082130432 (by decide) (by decide) (by decide) w) (by decide +kernel) (by decide +kernel) (by decide +kernel)
theorem kconv0 (w : World) : Calls Try.prog 52 #[.int .i64 0, .int .i64 1, .int .u32 ((0 : Nat) : Int), .int .u32 ((0 : Nat) : Int), .int .u32 ((0 : Nat) : Int)] w fun e w' => e = .returned (t4 0 0 0 70) ∧ Q w w' :=
  conv_bad1 (k := 0) (l := 1) (Or.inl (by decide)) (by decide) (by decide) (by decide) (by decide) (Or.inl ⟨_, way_1.sp⟩) 0 0 0 w
end Go.Proofs.Ytlelgifdnhnphaa
/- Lift and Drop bring all back. -/
namespace Go.Proofs.Ytlelgifdnhnphaa
open Go.RowKit

theorem add_les (a b : Nat) (ha : a < 4294967296) (hb : b < 4294967296) : lesN (addN a b) b = a := by unfold lesN addN; omega
theorem les_add (a b : Nat) (ha : a < 4294967296) (hb : b < 4294967296) : addN (lesN a b) b = a := by unfold lesN addN; omega
theorem df_key {d : Nat} (h : d < 4294967296) : dfN (fkeyN (addN d 2147483648)) = d := by
  unfold dfN; rw [key_fkey (addN_lt _ _), add_les _ _ h (by decide)]
theorem key_df {s : Nat} (h : s < 4294967296) : addN (dfN s) 2147483648 = keyN s := les_add _ _ (keyN_lt h) (by decide)
theorem drop_lift {r g b : Nat} (hr : r < 4294967296) (hg : g < 4294967296) (hb : b < 4294967296) :
    drop0 (lift0 r g b) (lift1 r g b) (lift2 r g b) = r ∧ drop1 (lift0 r g b) (lift1 r g b) (lift2 r g b) = g ∧ drop2 (lift0 r g b) (lift1 r g b) (lift2 r g b) = b := by
  have e1 : dfN (lift1 r g b) = lcgN r g b := df_key (lesN_lt _ _)
  have e2 : dfN (lift2 r g b) = lcoN r b := df_key (lesN_lt _ _)
  have e3 : dtN (lift0 r g b) (lift1 r g b) = ltN r b := by
    unfold dtN; rw [e1]; unfold lift0; rw [key_fkey (show lyN r g b < 4294967296 from addN_lt _ _)]; unfold lyN; exact add_les _ _ (addN_lt _ _) (hlfN_lt (lesN_lt _ _))
  have e4 : dbN (lift0 r g b) (lift1 r g b) (lift2 r g b) = keyN b := by
    unfold dbN; rw [e3, e2]; exact add_les _ _ (keyN_lt hb) (hlfN_lt (lesN_lt _ _))
  refine ⟨?_, ?_, ?_⟩
  · unfold drop0; rw [e4, e2, addN_comm]; unfold lcoN; rw [les_add _ _ (keyN_lt hr) (keyN_lt hb)]; exact fkey_key hr
  · unfold drop1; rw [e1, e3]; unfold lcgN; rw [les_add _ _ (keyN_lt hg) (show ltN r b < 4294967296 from addN_lt _ _)]; exact fkey_key hg
  · unfold drop2; rw [e4]; exact fkey_key hb
theorem lift_drop {y cg co : Nat} (hy : y < 4294967296) (hg : cg < 4294967296) (ho : co < 4294967296) :
    lift0 (drop0 y cg co) (drop1 y cg co) (drop2 y cg co) = y ∧ lift1 (drop0 y cg co) (drop1 y cg co) (drop2 y cg co) = cg ∧ lift2 (drop0 y cg co) (drop1 y cg co) (drop2 y cg co) = co := by
  have k0 : keyN (drop0 y cg co) = addN (dbN y cg co) (dfN co) := key_fkey (addN_lt _ _)
  have k1 : keyN (drop1 y cg co) = addN (dfN cg) (dtN y cg) := key_fkey (addN_lt _ _)
  have k2 : keyN (drop2 y cg co) = dbN y cg co := key_fkey (lesN_lt _ _)
  have e1 : lcoN (drop0 y cg co) (drop2 y cg co) = dfN co := by
    unfold lcoN; rw [k0, k2, addN_comm]; exact add_les _ _ (lesN_lt _ _) (lesN_lt _ _)
  have e2 : ltN (drop0 y cg co) (drop2 y cg co) = dtN y cg := by
    unfold ltN; rw [e1, k2]; exact les_add _ _ (lesN_lt _ _) (hlfN_lt (lesN_lt _ _))
  have e3 : lcgN (drop0 y cg co) (drop1 y cg co) (drop2 y cg co) = dfN cg := by
    unfold lcgN; rw [k1, e2]; exact add_les _ _ (lesN_lt _ _) (lesN_lt _ _)
  have e4 : lyN (drop0 y cg co) (drop1 y cg co) (drop2 y cg co) = keyN y := by
    unfold lyN; rw [e2, e3]; exact les_add _ _ (keyN_lt hy) (hlfN_lt (lesN_lt _ _))
  refine ⟨?_, ?_, ?_⟩
  · unfold lift0; rw [e4]; exact fkey_key hy
  · unfold lift1; rw [e3, key_df hg]; exact fkey_key hg
  · unfold lift2; rw [e1, key_df ho]; exact fkey_key ho
end Go.Proofs.Ytlelgifdnhnphaa
/- PictureLifts: the walk. -/
namespace Go.Proofs.Ytlelgifdnhnphaa
open Go.RowKit
set_option linter.unusedVariables false
set_option linter.unusedSimpArgs false

theorem mixL_back {A : List (List Nat)} {F0 F1 F2 G0 G1 G2 : Nat → Nat → Nat → Nat} {N : Nat} (hl : ∀ S ∈ A, S.length = N) (hb : ∀ S ∈ A, ∀ i, S.getD i 0 < 4294967296) (h : ∀ r g b, r < 4294967296 → g < 4294967296 → b < 4294967296 → G0 (F0 r g b) (F1 r g b) (F2 r g b) = r ∧ G1 (F0 r g b) (F1 r g b) (F2 r g b) = g ∧ G2 (F0 r g b) (F1 r g b) (F2 r g b) = b) : mixL G0 G1 G2 (mixL F0 F1 F2 A) = A := by
  match A with
  | [] => rfl
  | [_] => rfl
  | [_, _] => rfl
  | S0 :: S1 :: S2 :: r =>
    have l0 := hl S0 (by simp)
    have l1 := hl S1 (by simp)
    have l2 := hl S2 (by simp)
    have b0 := hb S0 (by simp)
    have b1 := hb S1 (by simp)
    have b2 := hb S2 (by simp)
    show mix3 G0 _ _ _ :: mix3 G1 _ _ _ :: mix3 G2 _ _ _ :: r = S0 :: S1 :: S2 :: r
    have key : ∀ i, i < N → (mix3 F0 S0 S1 S2).getD i 0 = F0 (S0.getD i 0) (S1.getD i 0) (S2.getD i 0) ∧ (mix3 F1 S0 S1 S2).getD i 0 = F1 (S0.getD i 0) (S1.getD i 0) (S2.getD i 0) ∧ (mix3 F2 S0 S1 S2).getD i 0 = F2 (S0.getD i 0) (S1.getD i 0) (S2.getD i 0) := fun i hi => ⟨mix3_get (by omega), mix3_get (by omega), mix3_get (by omega)⟩
    have e0 : mix3 G0 (mix3 F0 S0 S1 S2) (mix3 F1 S0 S1 S2) (mix3 F2 S0 S1 S2) = S0 := by
      apply list_ext (by rw [mix3_len, mix3_len])
      intro i hi
      rw [mix3_len, mix3_len, l0] at hi
      rw [mix3_get (by rw [mix3_len, l0]; exact hi), (key i hi).1, (key i hi).2.1, (key i hi).2.2]
      exact (h _ _ _ (b0 i) (b1 i) (b2 i)).1
    have e1 : mix3 G1 (mix3 F0 S0 S1 S2) (mix3 F1 S0 S1 S2) (mix3 F2 S0 S1 S2) = S1 := by
      apply list_ext (by rw [mix3_len, mix3_len, l0, l1])
      intro i hi
      rw [mix3_len, mix3_len, l0] at hi
      rw [mix3_get (by rw [mix3_len, l0]; exact hi), (key i hi).1, (key i hi).2.1, (key i hi).2.2]
      exact (h _ _ _ (b0 i) (b1 i) (b2 i)).2.1
    have e2 : mix3 G2 (mix3 F0 S0 S1 S2) (mix3 F1 S0 S1 S2) (mix3 F2 S0 S1 S2) = S2 := by
      apply list_ext (by rw [mix3_len, mix3_len, l0, l2])
      intro i hi
      rw [mix3_len, mix3_len, l0] at hi
      rw [mix3_get (by rw [mix3_len, l0]; exact hi), (key i hi).1, (key i hi).2.1, (key i hi).2.2]
      exact (h _ _ _ (b0 i) (b1 i) (b2 i)).2.2
    rw [e0, e1, e2]
theorem rg0_eq (x y z : Nat) : rg0 x y z = x := rfl
theorem rg1_eq (x y z : Nat) : rg1 x y z = y := rfl
theorem rg2_eq (x y z : Nat) : rg2 x y z = z := rfl
theorem rg_0 : (fun a b c => rg0 (drop0 a b c) (drop1 a b c) (drop2 a b c)) = drop0 := by funext a b c; rw [rg0_eq]
theorem rg_1 : (fun a b c => rg1 (drop0 a b c) (drop1 a b c) (drop2 a b c)) = drop1 := by funext a b c; rw [rg1_eq]
theorem rg_2 : (fun a b c => rg2 (drop0 a b c) (drop1 a b c) (drop2 a b c)) = drop2 := by funext a b c; rw [rg2_eq]
set_option maxHeartbeats 4000000 in
set_option maxRecDepth 100000 in
theorem lifts_walk (w : World) (sp : Int) (v : Value) (D : List PD) (h : DSl w v D) (hl : ∀ x ∈ D, x.S.length ≤ 9223372036854775807) (hlt : ∀ x ∈ D, ∀ i, x.S.getD i 0 < 4294967296) (hD : D.length ≤ 9223372036854775807) :
    Calls Try.prog 5 #[.agg #[.int .i64 sp, v]] w fun e w' => e = .returned (.bool true) ∧ Q w w' := by
  obtain ⟨ad, cap, hv⟩ := h.form
  subst hv
  have HD : Hid (DSl w (.slice ad D.length cap) D) := h
  have HL : Hid (∀ x ∈ D, x.S.length ≤ 9223372036854775807) := hl
  have HT : Hid (∀ x ∈ D, ∀ i, x.S.getD i 0 < 4294967296) := hlt
  obtain ⟨n, hn⟩ : ∃ n, D.length = n := ⟨_, rfl⟩
  have HDL : Hid (D.length = n ∧ D.length ≤ 9223372036854775807) := ⟨hn, hD⟩
  rw [hn] at HD hD ⊢
  have qa : Hid (∀ c t, Q w (w.alloc (.cells c t))) := fun c t => (Q.refl w).cells c t
  clear h hl hlt hn
  go_enter Try.func5, Try.ntmps5
  go_wp2_with fail
  refine (known8_any _).mono ?_
  rintro e w1 ⟨rfl, q1⟩
  have HQ1 : Hid (Q w w1) := (qa.out _ _).trans q1
  have p0 : w1.cell? ⟨w.heap.size, 0, none⟩ = some (.int .i64 sp) := q1.cell (by simp [go_sem])
  have p1 : w1.cell? ⟨w.heap.size, 1, none⟩ = some (.slice ad n cap) := q1.cell (by simp [go_sem])
  clear q1
  go_wp2_with fail
  refine (pcheck_any w1 sp _ D (HD.out.next HQ1.out) HL.out HDL.out.2).mono ?_
  rintro e w2 ⟨rfl, q2⟩
  have HQ2 : Hid (Q w w2) := HQ1.out.trans q2
  replace p0 := q2.cell p0
  replace p1 := q2.cell p1
  have HD2 : Hid (DSl w2 (.slice ad n cap) D) := (HD.out.next HQ1.out).next q2
  obtain ⟨c, hc⟩ : ∃ c, chkP sp D = c := ⟨_, rfl⟩
  have HC : Hid (chkP sp D = c) := hc
  rw [hc]
  clear q2 hc
  have l1 := num8_any
  go_wp2_with fail
  refine (l1 c w2).mono ?_
  rintro e w2' ⟨rfl, rfl⟩
  rcases Decidable.em (¬ c = 0) with h0 | h0
  · have h1 : (c != 0) = true := by rw [bne_iff_ne]; exact h0
    have h2 : (c == 0) = false := by rw [beq_eq_false_iff_ne]; exact h0
    go_wp2_with fail
    go_ret
    exact ⟨rfl, HQ2.out⟩
  replace h0 := Decidable.not_not.1 h0
  subst h0
  rcases Decidable.em (¬ sp = 1) with h1 | h1
  · have h2 : (sp != 1) = true := by rw [bne_iff_ne]; exact h1
    have h3 : (sp == 1) = false := by rw [beq_eq_false_iff_ne]; exact h1
    go_wp2_with fail
    go_ret
    exact ⟨rfl, HQ2.out⟩
  replace h1 := Decidable.not_not.1 h1
  subst h1
  obtain ⟨g, o, cap', a, b, L, e1, e2, e3, e4, e5⟩ := chkP_zero HD2.out HC.out HT.out
  injection e1 with e1 e6 e7
  have HN : Hid (L.length = n) := e6.symm
  subst e1 e7
  rw [← e6] at e2 e4
  have HP2 : Hid (Pc w2' g o a b L) := e3
  have HSP : Hid (spcB 1 (n : Int) = true) := e4
  have n3 : 3 ≤ n := by
    have := e4
    unfold spcB at this
    simp at this
    omega
  have n4 : n ≤ 4 := by rw [e6]; exact e3.n4
  have HSP4 : Hid (spcB 4 (n : Int) = true) := by
    have : n = 3 ∨ n = 4 := by omega
    show spcB 4 (n : Int) = true
    rcases this with rfl | rfl <;> decide
  clear e3 e4 e5 e6 HD HD2 HC
  go_wp2_with fail
  refine (conv8_good (by decide) way_1 way_4 w2' g o cap a b n L HP2.out HN.out e2 n3 HSP.out).mono ?_
  rintro e w3 ⟨g3, cap3, M3, rfl, hM3, HW3, q3⟩
  have hm3 : M3.length = n := by
    have := congrArg List.length hM3
    rw [List.length_map] at this
    rw [this]
    have hh : ∀ (F0 F1 F2 : Nat → Nat → Nat → Nat) (A : List (List Nat)), (mixL F0 F1 F2 A).length = A.length := fun F0 F1 F2 A => by
      match A with
      | [] => rfl
      | [_] => rfl
      | [_, _] => rfl
      | _ :: _ :: _ :: _ => rfl
    rw [hh, List.length_map]; exact HN.out
  have HM3 : Hid (M3.map PL.S = mixL lift0 lift1 lift2 (L.map PL.S)) := hM3
  have QN : Q w2' (w3.alloc (Obj.cells #[Value.int IntKind.i64 4, Value.slice (some { block := g3, off := 0 }) n cap3] 24)) := q3.cells _ _
  have HQ4 : Hid (Q w (w3.alloc (Obj.cells #[Value.int IntKind.i64 4, Value.slice (some { block := g3, off := 0 }) n cap3] 24))) := HQ2.out.trans QN
  have HP4 : Hid (Pc (w3.alloc (Obj.cells #[Value.int IntKind.i64 4, Value.slice (some { block := g3, off := 0 }) n cap3] 24)) g o a b L) := HP2.out.next QN
  have HN4 : Hid (Pc (w3.alloc (Obj.cells #[Value.int IntKind.i64 4, Value.slice (some { block := g3, off := 0 }) n cap3] 24)) g3 0 a b M3) := HW3.out.pc.next ((Q.refl w3).cells _ _)
  have hc3 : n ≤ cap3 := by have := HW3.out.room; omega
  replace p0 := QN.cell p0
  replace p1 := QN.cell p1
  have t0 : (w3.alloc (Obj.cells #[Value.int IntKind.i64 4, Value.slice (some { block := g3, off := 0 }) n cap3] 24)).cell? ⟨w3.heap.size, 0, none⟩ = some (.int .i64 4) := by simp [go_sem]
  have t1 : (w3.alloc (Obj.cells #[Value.int IntKind.i64 4, Value.slice (some { block := g3, off := 0 }) n cap3] 24)).cell? ⟨w3.heap.size, 1, none⟩ = some (.slice (some ⟨g3, 0, none⟩) n cap3) := by simp [go_sem]
  clear q3 hM3 HW3 HQ2 HP2
  go_wp2_with fail
  generalize (w3.alloc (Obj.cells #[Value.int IntKind.i64 4, Value.slice (some { block := g3, off := 0 }) n cap3] 24)) = w4 at *
  generalize w3.heap.size = B3 at *
  clear QN
  refine (conv8_good (by decide) way_4 way_1 w4 g3 0 cap3 a b n M3 HN4.out hm3 hc3 n3 HSP4.out).mono ?_
  rintro e w5 ⟨g5, cap5, M5, rfl, hM5, HW5, q5⟩
  rw [rg_0, rg_1, rg_2] at hM5
  have HM5 : Hid (M5.map PL.S = mixL drop0 drop1 drop2 (M3.map PL.S)) := hM5
  have QN : Q w4 (w5.alloc (Obj.cells #[Value.int IntKind.i64 1, Value.slice (some { block := g5, off := 0 }) n cap5] 24)) := q5.cells _ _
  have HQ6 : Hid (Q w (w5.alloc (Obj.cells #[Value.int IntKind.i64 1, Value.slice (some { block := g5, off := 0 }) n cap5] 24))) := HQ4.out.trans QN
  have HP6 : Hid (Pc (w5.alloc (Obj.cells #[Value.int IntKind.i64 1, Value.slice (some { block := g5, off := 0 }) n cap5] 24)) g o a b L) := HP4.out.next QN
  have HN6 : Hid (Pc (w5.alloc (Obj.cells #[Value.int IntKind.i64 1, Value.slice (some { block := g5, off := 0 }) n cap5] 24)) g5 0 a b M5) := HW5.out.pc.next ((Q.refl w5).cells _ _)
  have hroom := HW5.out.room
  replace p0 := QN.cell p0
  replace p1 := QN.cell p1
  replace t0 := QN.cell t0
  replace t1 := QN.cell t1
  have s0 : (w5.alloc (Obj.cells #[Value.int IntKind.i64 1, Value.slice (some { block := g5, off := 0 }) n cap5] 24)).cell? ⟨w5.heap.size, 0, none⟩ = some (.int .i64 1) := by simp [go_sem]
  have s1 : (w5.alloc (Obj.cells #[Value.int IntKind.i64 1, Value.slice (some { block := g5, off := 0 }) n cap5] 24)).cell? ⟨w5.heap.size, 1, none⟩ = some (.slice (some ⟨g5, 0, none⟩) n cap5) := by simp [go_sem]
  have HSS : Hid (M5.map PL.S = L.map PL.S) := by
    show _ = _
    rw [HM5.out, HM3.out]
    refine mixL_back (N := a * b) (fun S hS => ?_) (fun S hS => ?_) (fun r g b hr hg hb => drop_lift hr hg hb)
    · obtain ⟨x, hx, rfl⟩ := List.mem_map.1 hS; exact (HP4.out.it x hx).len
    · obtain ⟨x, hx, rfl⟩ := List.mem_map.1 hS; exact (HP4.out.it x hx).lt
  have hm5 : M5.length = n := by have := congrArg List.length HSS.out; rw [List.length_map, List.length_map] at this; rw [this]; exact HN.out
  clear q5 hM5 HW5 HQ4 HP4
  go_wp2_with (go_at_call 14; refine (l1 _ _).mono ?_; rintro e w1 ⟨rfl, rfl⟩)
  generalize (w5.alloc (Obj.cells #[Value.int IntKind.i64 1, Value.slice (some { block := g5, off := 0 }) n cap5] 24)) = w6 at *
  generalize w5.heap.size = B5 at *
  clear QN
  refine (pics_same HN6.out HP6.out hm5 HSS.out (by omega) e2).mono ?_
  rintro e w7 ⟨rfl, q7⟩
  go_wp2_with fail
  go_ret
  exact ⟨rfl, HQ6.out.trans q7⟩
end Go.Proofs.Ytlelgifdnhnphaa
