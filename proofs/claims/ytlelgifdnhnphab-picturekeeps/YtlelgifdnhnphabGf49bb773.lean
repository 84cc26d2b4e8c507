/- The chapter's examples. -/
import Derived.Test.YtlelgifdnhnphabG571e95aa
import Derived.Test.YtlelgifdnhnphabG89eefc08
namespace Go.Proofs.Ytlelgifdnhnphab
open Go.RowKit
set_option linter.unusedVariables false
set_option linter.unusedSimpArgs false

theorem num8_any (e : Int) (w : World) : Calls Try.prog 5 #[.int .i64 e] w fun r w' => r = .returned (.int .i64 e) ∧ w' = w := by
  go_enter Try.func5, Try.ntmps5
  go_wp2_with fail
  go_ret
  exact ⟨rfl, rfl⟩
def kL : List Nat := [1065353216, 1073741824, 1082130432]
def kM (i : Nat) : Nat := if i = 2 ∨ i = 4 ∨ i = 6 then 1065353216 else 0
theorem kM_lt (i : Nat) : kM i < 4294967296 := by unfold kM; split <;> decide
theorem ex_affine : chgL (affineV 1073741824 1065353216) (-1) 0 (kL.map (fun x => [x])) = [1077936128, 1084227584, 1091567616].map (fun x => [x]) := by decide +kernel
theorem ex_matrix : mixL (mixM kM 0) (mixM kM 1) (mixM kM 2) (kL.map (fun x => [x])) = [1082130432, 1073741824, 1065353216].map (fun x => [x]) := by decide +kernel
theorem ex_two : zTo subG (kL.map (fun x => [x])) (kL.map (fun x => [x])) 3 = [0, 0, 0].map (fun x => [x]) := by decide +kernel
theorem ex_between : chgL (boundsV 1069547520 1077936128) (-1) 0 (kL.map (fun x => [x])) = [1069547520, 1073741824, 1077936128].map (fun x => [x]) := by decide +kernel
set_option maxHeartbeats 8000000 in
set_option maxRecDepth 100000 in
theorem known8_any (w : World) : Calls Try.prog 4 #[] w fun e w' => e = .returned (.bool true) ∧ Q w w' := by
  have l1 := num8_any
  go_enter Try.func4, Try.ntmps4
  go_wp2_with fail
  refine (place_any _ 1 w.heap.size 0 3 3 kL (uis3 w 1065353216 1073741824 1082130432) rfl (by decide) (by decide) (fun i => ?_)).mono ?_
  · match i with
    | 0 => show (1065353216 : Nat) < _; decide
    | 1 => show (1073741824 : Nat) < _; decide
    | 2 => show (1082130432 : Nat) < _; decide
    | i + 3 => show (0 : Nat) < _; decide
  rintro e w1 ⟨gp, cp, MP, rfl, hMP, HWP, q1⟩
  have HQ1 : Hid (Q w w1) := ((Q.refl w).cells _ _).trans q1
  have HP1 : Hid (Pc w1 gp 0 1 1 MP) := HWP.out.pc
  have HMP : Hid (MP.map PL.S = kL.map (fun x => [x])) := hMP
  have hlen : MP.length = 3 := by have := congrArg List.length hMP; rw [List.length_map, List.length_map] at this; exact this
  have HL : Hid (MP.length = 3) := hlen
  have hcp : 3 ≤ cp := by have := HWP.out.room; omega
  have sp1 : Hid (spcB 1 ((3 : Nat) : Int) = true) := (by decide : spcB 1 ((3 : Nat) : Int) = true)
  clear q1 hMP HWP hlen
  go_wp2_with fail
  have HP2 : Hid (Pc (w1.alloc (Obj.cells #[Value.int IntKind.i64 1, Value.slice (some { block := gp, off := 0 }) 3 cp] 24)) gp 0 1 1 MP) := HP1.out.next ((Q.refl w1).cells _ _)
  have HQ2 : Hid (Q w (w1.alloc (Obj.cells #[Value.int IntKind.i64 1, Value.slice (some { block := gp, off := 0 }) 3 cp] 24))) := HQ1.out.cells _ _
  have b0 : (w1.alloc (Obj.cells #[Value.int IntKind.i64 1, Value.slice (some { block := gp, off := 0 }) 3 cp] 24)).cell? ⟨w1.heap.size, 0, none⟩ = some (.int .i64 1) := by simp [go_sem]
  have b1 : (w1.alloc (Obj.cells #[Value.int IntKind.i64 1, Value.slice (some { block := gp, off := 0 }) 3 cp] 24)).cell? ⟨w1.heap.size, 1, none⟩ = some (.slice (some ⟨gp, 0, none⟩) 3 cp) := by simp [go_sem]
  generalize (w1.alloc (Obj.cells #[Value.int IntKind.i64 1, Value.slice (some { block := gp, off := 0 }) 3 cp] 24)) = w2 at *
  generalize w1.heap.size = B1 at *
  clear HP1 HQ1
  refine (affine_good 1073741824 1065353216 (by decide) (by decide) w2 1 (-1) gp 0 cp 1 1 3 MP HP2.out HL.out hcp sp1.out (Or.inl rfl)).mono ?_
  rintro e w3 ⟨ga, ca, MA, rfl, hMA, HWMA, q3⟩
  have HMA : Hid (MA.map PL.S = [1077936128, 1084227584, 1091567616].map (fun x => [x])) := by show _ = _; rw [hMA, HMP.out]; exact ex_affine
  have Hc0 : 3 ≤ ca := by have h1 := HWMA.out.room; have h2 := congrArg List.length HMA.out; rw [List.length_map] at h2; simp at h2; omega
  have QN0 : Q w2 (w3.alloc (Obj.cells #[Value.int IntKind.i64 1, Value.slice (some { block := ga, off := 0 }) 3 ca] 24)) := q3.cells _ _
  have HP4 : Hid (Pc (w3.alloc (Obj.cells #[Value.int IntKind.i64 1, Value.slice (some { block := ga, off := 0 }) 3 ca] 24)) gp 0 1 1 MP) := HP2.out.next QN0
  have HQ4 : Hid (Q w (w3.alloc (Obj.cells #[Value.int IntKind.i64 1, Value.slice (some { block := ga, off := 0 }) 3 ca] 24))) := HQ2.out.trans QN0
  have NMA : Hid (PcB [1077936128, 1084227584, 1091567616] w3.heap.size (w3.alloc (Obj.cells #[Value.int IntKind.i64 1, Value.slice (some { block := ga, off := 0 }) 3 ca] 24))) := ⟨ga, ca, MA, by simp [go_sem], by simp [go_sem], Hc0, HWMA.out.pc.next ((Q.refl w3).cells _ _), HMA.out⟩
  replace b0 := QN0.cell b0
  replace b1 := QN0.cell b1
  clear hMA HWMA q3 HMA Hc0 HP2 HQ2
  go_wp2_with fail
  generalize (w3.alloc (Obj.cells #[Value.int IntKind.i64 1, Value.slice (some { block := ga, off := 0 }) 3 ca] 24)) = w4 at *
  generalize w3.heap.size = B2 at *
  clear QN0
  refine (matrix_good kM kM_lt w4 1 gp 0 cp 1 1 3 MP HP4.out HL.out hcp (by decide) sp1.out).mono ?_
  rintro e w5 ⟨gb, cb, MB, rfl, hMB, HWMB, q4⟩
  have HMB : Hid (MB.map PL.S = [1082130432, 1073741824, 1065353216].map (fun x => [x])) := by show _ = _; rw [hMB, HMP.out]; exact ex_matrix
  have Hc1 : 3 ≤ cb := by have h1 := HWMB.out.room; have h2 := congrArg List.length HMB.out; rw [List.length_map] at h2; simp at h2; omega
  have QN1 : Q w4 (w5.alloc (Obj.cells #[Value.int IntKind.i64 1, Value.slice (some { block := gb, off := 0 }) 3 cb] 24)) := q4.cells _ _
  have HP6 : Hid (Pc (w5.alloc (Obj.cells #[Value.int IntKind.i64 1, Value.slice (some { block := gb, off := 0 }) 3 cb] 24)) gp 0 1 1 MP) := HP4.out.next QN1
  have HQ6 : Hid (Q w (w5.alloc (Obj.cells #[Value.int IntKind.i64 1, Value.slice (some { block := gb, off := 0 }) 3 cb] 24))) := HQ4.out.trans QN1
  have NMB : Hid (PcB [1082130432, 1073741824, 1065353216] w5.heap.size (w5.alloc (Obj.cells #[Value.int IntKind.i64 1, Value.slice (some { block := gb, off := 0 }) 3 cb] 24))) := ⟨gb, cb, MB, by simp [go_sem], by simp [go_sem], Hc1, HWMB.out.pc.next ((Q.refl w5).cells _ _), HMB.out⟩
  replace NMA : Hid (PcB [1077936128, 1084227584, 1091567616] B2 (w5.alloc (Obj.cells #[Value.int IntKind.i64 1, Value.slice (some { block := gb, off := 0 }) 3 cb] 24))) := NMA.out.next QN1
  replace b0 := QN1.cell b0
  replace b1 := QN1.cell b1
  clear hMB HWMB q4 HMB Hc1 HP4 HQ4
  go_wp2_with fail
  generalize (w5.alloc (Obj.cells #[Value.int IntKind.i64 1, Value.slice (some { block := gb, off := 0 }) 3 cb] 24)) = w6 at *
  generalize w5.heap.size = B3 at *
  clear QN1
  refine (two_good kind_sub w6 1 gp 0 cp gp 0 cp 1 1 3 MP MP HP6.out HL.out hcp HP6.out HL.out hcp sp1.out).mono ?_
  rintro e w7 ⟨gc, cc, MC, rfl, hMC, HWMC, q5⟩
  have HMC : Hid (MC.map PL.S = [0, 0, 0].map (fun x => [x])) := by show _ = _; rw [hMC, HMP.out]; exact ex_two
  have Hc2 : 3 ≤ cc := by have h1 := HWMC.out.room; have h2 := congrArg List.length HMC.out; rw [List.length_map] at h2; simp at h2; omega
  have QN2 : Q w6 (w7.alloc (Obj.cells #[Value.int IntKind.i64 1, Value.slice (some { block := gc, off := 0 }) 3 cc] 24)) := q5.cells _ _
  have HP8 : Hid (Pc (w7.alloc (Obj.cells #[Value.int IntKind.i64 1, Value.slice (some { block := gc, off := 0 }) 3 cc] 24)) gp 0 1 1 MP) := HP6.out.next QN2
  have HQ8 : Hid (Q w (w7.alloc (Obj.cells #[Value.int IntKind.i64 1, Value.slice (some { block := gc, off := 0 }) 3 cc] 24))) := HQ6.out.trans QN2
  have NMC : Hid (PcB [0, 0, 0] w7.heap.size (w7.alloc (Obj.cells #[Value.int IntKind.i64 1, Value.slice (some { block := gc, off := 0 }) 3 cc] 24))) := ⟨gc, cc, MC, by simp [go_sem], by simp [go_sem], Hc2, HWMC.out.pc.next ((Q.refl w7).cells _ _), HMC.out⟩
  replace NMA : Hid (PcB [1077936128, 1084227584, 1091567616] B2 (w7.alloc (Obj.cells #[Value.int IntKind.i64 1, Value.slice (some { block := gc, off := 0 }) 3 cc] 24))) := NMA.out.next QN2
  replace NMB : Hid (PcB [1082130432, 1073741824, 1065353216] B3 (w7.alloc (Obj.cells #[Value.int IntKind.i64 1, Value.slice (some { block := gc, off := 0 }) 3 cc] 24))) := NMB.out.next QN2
  replace b0 := QN2.cell b0
  replace b1 := QN2.cell b1
  clear hMC HWMC q5 HMC Hc2 HP6 HQ6
  go_wp2_with fail
  generalize (w7.alloc (Obj.cells #[Value.int IntKind.i64 1, Value.slice (some { block := gc, off := 0 }) 3 cc] 24)) = w8 at *
  generalize w7.heap.size = B4 at *
  clear QN2
  refine (bounds_good 1069547520 1077936128 (by decide) (by decide) w8 1 (-1) gp 0 cp 1 1 3 MP HP8.out HL.out hcp sp1.out (Or.inl rfl)).mono ?_
  rintro e w9 ⟨gd, cd, MD, rfl, hMD, HWMD, q6⟩
  have HMD : Hid (MD.map PL.S = [1069547520, 1073741824, 1077936128].map (fun x => [x])) := by show _ = _; rw [hMD, HMP.out]; exact ex_between
  have Hc3 : 3 ≤ cd := by have h1 := HWMD.out.room; have h2 := congrArg List.length HMD.out; rw [List.length_map] at h2; simp at h2; omega
  have QN3 : Q w8 (w9.alloc (Obj.cells #[Value.int IntKind.i64 1, Value.slice (some { block := gd, off := 0 }) 3 cd] 24)) := q6.cells _ _
  have HP10 : Hid (Pc (w9.alloc (Obj.cells #[Value.int IntKind.i64 1, Value.slice (some { block := gd, off := 0 }) 3 cd] 24)) gp 0 1 1 MP) := HP8.out.next QN3
  have HQ10 : Hid (Q w (w9.alloc (Obj.cells #[Value.int IntKind.i64 1, Value.slice (some { block := gd, off := 0 }) 3 cd] 24))) := HQ8.out.trans QN3
  have NMD : Hid (PcB [1069547520, 1073741824, 1077936128] w9.heap.size (w9.alloc (Obj.cells #[Value.int IntKind.i64 1, Value.slice (some { block := gd, off := 0 }) 3 cd] 24))) := ⟨gd, cd, MD, by simp [go_sem], by simp [go_sem], Hc3, HWMD.out.pc.next ((Q.refl w9).cells _ _), HMD.out⟩
  replace NMA : Hid (PcB [1077936128, 1084227584, 1091567616] B2 (w9.alloc (Obj.cells #[Value.int IntKind.i64 1, Value.slice (some { block := gd, off := 0 }) 3 cd] 24))) := NMA.out.next QN3
  replace NMB : Hid (PcB [1082130432, 1073741824, 1065353216] B3 (w9.alloc (Obj.cells #[Value.int IntKind.i64 1, Value.slice (some { block := gd, off := 0 }) 3 cd] 24))) := NMB.out.next QN3
  replace NMC : Hid (PcB [0, 0, 0] B4 (w9.alloc (Obj.cells #[Value.int IntKind.i64 1, Value.slice (some { block := gd, off := 0 }) 3 cd] 24))) := NMC.out.next QN3
  replace b0 := QN3.cell b0
  replace b1 := QN3.cell b1
  clear hMD HWMD q6 HMD Hc3 HP8 HQ8
  go_wp2_with fail
  generalize (w9.alloc (Obj.cells #[Value.int IntKind.i64 1, Value.slice (some { block := gd, off := 0 }) 3 cd] 24)) = w10 at *
  generalize w9.heap.size = B5 at *
  clear QN3
  refine (new8_81 1 2 (a := 1) (b := 1) ⟨by decide, by decide, by decide, by decide, by decide⟩ 0 (by decide) (by decide) w10).mono ?_
  rintro e w11 ⟨rfl, qe0⟩
  have QE0 : Q w10 (w11.alloc (Obj.cells #[Value.int IntKind.i64 0, Value.slice none 0 0] 24)) := qe0.cells _ _
  have HQ12 : Hid (Q w (w11.alloc (Obj.cells #[Value.int IntKind.i64 0, Value.slice none 0 0] 24))) := HQ10.out.trans QE0
  replace NMA : Hid (PcB [1077936128, 1084227584, 1091567616] B2 (w11.alloc (Obj.cells #[Value.int IntKind.i64 0, Value.slice none 0 0] 24))) := NMA.out.next QE0
  replace NMB : Hid (PcB [1082130432, 1073741824, 1065353216] B3 (w11.alloc (Obj.cells #[Value.int IntKind.i64 0, Value.slice none 0 0] 24))) := NMB.out.next QE0
  replace NMC : Hid (PcB [0, 0, 0] B4 (w11.alloc (Obj.cells #[Value.int IntKind.i64 0, Value.slice none 0 0] 24))) := NMC.out.next QE0
  replace NMD : Hid (PcB [1069547520, 1073741824, 1077936128] B5 (w11.alloc (Obj.cells #[Value.int IntKind.i64 0, Value.slice none 0 0] 24))) := NMD.out.next QE0
  clear qe0 HQ10
  clear b0 b1 HP10
  go_wp2_with fail
  generalize (w11.alloc (Obj.cells #[Value.int IntKind.i64 0, Value.slice none 0 0] 24)) = w12 at *
  clear QE0
  refine (new8_80 0 5 1 1 0 (by decide) w12).mono ?_
  rintro e w13 ⟨rfl, qe1⟩
  have QE1 : Q w12 (w13.alloc (Obj.cells #[Value.int IntKind.i64 0, Value.slice none 0 0] 24)) := qe1.cells _ _
  have HQ14 : Hid (Q w (w13.alloc (Obj.cells #[Value.int IntKind.i64 0, Value.slice none 0 0] 24))) := HQ12.out.trans QE1
  replace NMA : Hid (PcB [1077936128, 1084227584, 1091567616] B2 (w13.alloc (Obj.cells #[Value.int IntKind.i64 0, Value.slice none 0 0] 24))) := NMA.out.next QE1
  replace NMB : Hid (PcB [1082130432, 1073741824, 1065353216] B3 (w13.alloc (Obj.cells #[Value.int IntKind.i64 0, Value.slice none 0 0] 24))) := NMB.out.next QE1
  replace NMC : Hid (PcB [0, 0, 0] B4 (w13.alloc (Obj.cells #[Value.int IntKind.i64 0, Value.slice none 0 0] 24))) := NMC.out.next QE1
  replace NMD : Hid (PcB [1069547520, 1073741824, 1077936128] B5 (w13.alloc (Obj.cells #[Value.int IntKind.i64 0, Value.slice none 0 0] 24))) := NMD.out.next QE1
  clear qe1 HQ12
  skip
  go_wp2_with (go_at_call 5; refine (l1 _ _).mono ?_; rintro e w1 ⟨rfl, rfl⟩)
  generalize (w13.alloc (Obj.cells #[Value.int IntKind.i64 0, Value.slice none 0 0] 24)) = w14 at *
  clear QE1
  refine regionKn rfl rfl (V2 := B2) (V4 := B3) (V6 := B4) (V8 := B5) ⟨rfl, rfl, rfl, rfl, NMA.out, NMB.out, NMC.out, NMD.out⟩ ?_
  intro x v0 v1 v2 v5 v6 v7 v11 v12 v13 v17 v18 v19 qx
  have HX : Hid (Q w x) := HQ14.out.trans qx
  clear qx NMA NMB NMC NMD HQ14
  simp only [putAll]
  go_wp2_with fail
  refine bodyPost_ret (v := .bool true) (by simp [results, Try.results4, go_sem]) rfl ⟨rfl, HX.out⟩
end Go.Proofs.Ytlelgifdnhnphab
/- The chapter's examples: 'known' is true. -/
namespace Go.Proofs.Ytlelgifdnhnphab
open Go.RowKit
set_option linter.unusedVariables false

theorem k3 {f : FuncId} {args : Array Value} {w : World} {x y z a b c : Nat} (h : Calls Try.prog f args w fun e w' => e = .returned (t3 x y z) ∧ Q w w') (e1 : x = a) (e2 : y = b) (e3 : z = c) :
    Calls Try.prog f args w fun e w' => e = .returned (t3 a b c) ∧ Q w w' := by rw [← e1, ← e2, ← e3]; exact h
theorem k1' {f : FuncId} {args : Array Value} {w : World} {x a : Nat} (h : Calls Try.prog f args w fun e w' => e = .returned (.int .u32 (x : Nat)) ∧ Q w w') (e1 : x = a) :
    Calls Try.prog f args w fun e w' => e = .returned (.int .u32 (a : Nat)) ∧ Q w w' := by rw [← e1]; exact h
theorem k4 {f : FuncId} {args : Array Value} {w : World} {x y z a b c : Nat} {u : Int} (h : Calls Try.prog f args w fun e w' => e = .returned (t4 x y z u) ∧ Q w w') (e1 : x = a) (e2 : y = b) (e3 : z = c) :
    Calls Try.prog f args w fun e w' => e = .returned (t4 a b c u) ∧ Q w w' := by rw [← e1, ← e2, ← e3]; exact h
end Go.Proofs.Ytlelgifdnhnphab
/- YCC, Log and Exp in least units of binary64: plain facts. -/
namespace Go.Proofs.Ytlelgifdnhnphab
open Go.RowKit
set_option linter.unusedVariables false

theorem RN_mono {Y Z : Int} (h : Y ≤ Z) : RN Y ≤ RN Z := by
  unfold RN
  by_cases hy : Y < 0
  · rw [if_pos hy]
    by_cases hz : Z < 0
    · rw [if_pos hz]
      have := val_le64 (rung_mono Ieee.double (-1074) (show Z.natAbs ≤ Y.natAbs by omega))
      omega
    · rw [if_neg hz]; omega
  · rw [if_neg hy, if_neg (by omega)]
    have := val_le64 (rung_mono Ieee.double (-1074) (show Y.natAbs ≤ Z.natAbs by omega))
    omega
theorem opT_of {op : BinOp} (hop : isA op) {x y W : Nat} (h : floatBits op .f64 x y = some W) : opT op x y = W := by
  rw [bits_op op hop] at h
  unfold opT
  cases hd : opD op (Ieee.double.read x) (Ieee.double.read y) with
  | none => rw [hd] at h; cases h
  | some d =>
    rw [hd] at h
    rw [told64_some (opD_num hd)]
    exact Option.some.inj h
/-- A finite word worth Z. -/
structure Wf (x : Nat) (Z : Int) : Prop where
  fin : rung64 x < 9218868437227405312
  val : sval64 x = Z
theorem wide_wf {a : Nat} (h : rung32 a < 2139095040) : Wf (wideW a) (sampleZ a) := by
  rw [wideW_of (fin_num h)]
  exact ⟨(wide_fin h).1, (wide_fin h).2.2⟩
theorem add_wf {x y : Nat} {X Y : Int} (hx : Wf x X) (hy : Wf y Y) (hs : (X + Y).natAbs.log2 ≤ 2000) : Wf (opT .add x y) (RN (X + Y)) := by
  have e := add_fin hx.fin hy.fin
  rw [hx.val, hy.val] at e
  rw [opT_of hA1 e]
  obtain ⟨_, _, h1, h2⟩ := wordOf_facts (σ := sg (sgn64 x) (sgn64 y) (X + Y)) hs (fun h => sg_of h)
  exact ⟨h1, h2⟩
theorem sub_wf {x y : Nat} {X Y : Int} (hx : Wf x X) (hy : Wf y Y) (hs : (X - Y).natAbs.log2 ≤ 2000) : Wf (opT .sub x y) (RN (X - Y)) := by
  have e := sub_fin hx.fin hy.fin
  rw [hx.val, hy.val] at e
  rw [opT_of hA2 e]
  obtain ⟨_, _, h1, h2⟩ := wordOf_facts (σ := sg (sgn64 x) (!sgn64 y) (X - Y)) hs (fun h => sg_of h)
  exact ⟨h1, h2⟩
theorem sval_signed (x : Nat) : sval64 x = Ieee.signed (sgn64 x) (mag64 (rung64 x)) (plc64 (rung64 x)) := by
  have := signed_read x
  rw [show (-1074 + (plc64 (rung64 x) : Int) + 1074).toNat = plc64 (rung64 x) by omega] at this
  exact this.symm
theorem signed_mul (s : Bool) (m k j : Nat) : Ieee.signed s m (k + j) = Ieee.signed s m k * 2 ^ j := by
  rw [signed_shift]
  unfold Ieee.signed
  rw [Nat.shiftLeft_eq, Nat.shiftLeft_eq, Nat.pow_zero, Nat.mul_one]
/-- Times a power of two. -/
theorem shf_up {x : Nat} {Z : Int} (hx : Wf x Z) (k : Nat) (hk : plc64 (rung64 x) + k ≤ 1900) : Wf (shfW x k) (Z * 2 ^ k) := by
  have e : shfW x k = wordOf (sgn64 x) (Ieee.signed (sgn64 x) (mag64 (rung64 x)) (plc64 (rung64 x) + k)) := by
    rw [shfW_num (read_fin64 hx.fin)]
    unfold wordOf
    rw [signed_abs, rung_scale]
    congr 2; omega
  obtain ⟨a, _, c⟩ := units_word (s := sgn64 x) (m := mag64 (rung64 x)) (k := plc64 (rung64 x) + k) (mag_lt64 _) hk
  rw [e]
  refine ⟨a, ?_⟩
  rw [c, signed_mul, ← sval_signed, hx.val]
theorem shf_down {x : Nat} {Z Y : Int} (hx : Wf x Z) (k : Nat) (hk : k ≤ plc64 (rung64 x) ∨ Z = 0) (hp : plc64 (rung64 x) ≤ 1900) (hZ : Z = Y * 2 ^ k) : Wf (shfW x (-(k : Int))) Y := by
  by_cases h0 : Z = 0
  · have hr : rung64 x = 0 := by rw [← sval_zero, hx.val, h0]
    have hY : Y = 0 := by
      rw [h0] at hZ
      rcases Int.mul_eq_zero.1 hZ.symm with h | h
      · exact h
      · have : (0 : Int) < 2 ^ k := Int.pow_pos (by decide)
        omega
    have e : shfW x (-(k : Int)) = Ieee.double.word (sgn64 x) 0 := by
      rw [shfW_num (read_fin64 hx.fin), hr, show mag64 0 = 0 from by decide, rungOf_zero]
    obtain ⟨s1, s2⟩ := sgn_word64 (sgn64 x) (r := 0) (by decide)
    rw [e, hY]
    exact ⟨by rw [s2]; decide, sval_zero.2 s2⟩
  · have hk : k ≤ plc64 (rung64 x) := hk.resolve_right h0
    have e : shfW x (-(k : Int)) = wordOf (sgn64 x) (Ieee.signed (sgn64 x) (mag64 (rung64 x)) (plc64 (rung64 x) - k)) := by
      rw [shfW_num (read_fin64 hx.fin)]
      unfold wordOf
      rw [signed_abs, rung_scale]
      congr 2; omega
    obtain ⟨a, _, c⟩ := units_word (s := sgn64 x) (m := mag64 (rung64 x)) (k := plc64 (rung64 x) - k) (mag_lt64 _) (by omega)
    rw [e]
    refine ⟨a, ?_⟩
    rw [c]
    have h2 := signed_mul (sgn64 x) (mag64 (rung64 x)) (plc64 (rung64 x) - k) k
    rw [show plc64 (rung64 x) - k + k = plc64 (rung64 x) by omega, ← sval_signed, hx.val, hZ] at h2
    have : (2 : Int) ^ k ≠ 0 := Int.ne_of_gt (Int.pow_pos (by decide))
    exact (Int.eq_of_mul_eq_mul_right this h2).symm
theorem nar_wf {x : Nat} {Z : Int} (hx : Wf x Z) : srung32 (narW x) = RS Z ∧ nanN (narW x) = false := by
  unfold narW
  rw [read_fin64 hx.fin]
  refine srung_told (fun h => ?_) ?_
  · have := signed_sign (s := sgn64 x) (m := mag64 (rung64 x)) (k := plc64 (rung64 x))
    rw [← sval_signed, hx.val] at this
    exact this h
  · rw [← hx.val, val_abs]
    unfold val64
    rw [rung_scale]
/-- How great numbers are, by letters. -/
structure Caps (D K : Nat) : Prop where
  d0 : 0 < D
  lg : ∀ Z : Int, ab Z < 64 * K → Z.natAbs.log2 ≤ 2000
  up : ∀ r, val64 r < 64 * K → plc64 r ≤ 1300
  lo : ∀ r, D ≤ val64 r → 800 ≤ plc64 r
  sd : ∀ a, (D : Int) ∣ sampleZ a
  sk : ∀ a, rung32 a < 2139095040 → ab (sampleZ a) < K
  rd : ∀ Z : Int, ab Z < 64 * K → (D : Int) ∣ Z → (D : Int) ∣ RN Z
  d4 : ∀ k, k ≤ 3 → (2 ^ k : Int) ∣ (D : Int)
theorem caps : ∃ D K, Caps D K := by
  obtain ⟨c, hc⟩ : ∃ c : Nat, c = 925 := ⟨_, rfl⟩
  obtain ⟨j, hj⟩ : ∃ j : Nat, j = 1210 := ⟨_, rfl⟩
  have lg : ∀ n, n < 64 * 2 ^ j → n.log2 ≤ 2000 := by
    intro n h
    by_cases h0 : n = 0
    · subst h0; decide
    · have h2 : n < 2 ^ (j + 6) := by rw [Nat.pow_add]; omega
      have := (Nat.log2_lt h0).2 h2
      omega
  refine ⟨2 ^ c, 2 ^ j, ⟨Nat.two_pow_pos _, fun Z h => lg _ h, ?_, ?_, ?_, ?_, ?_, ?_⟩⟩
  · intro r h
    rcases Nat.lt_or_ge 1300 (plc64 r) with g | g
    · exfalso
      have h1 := mag_ge64 (r := r) (by omega)
      unfold val64 at h
      have h2 : 64 * 2 ^ j ≤ 4503599627370496 * 2 ^ plc64 r := by
        have : 2 ^ j ≤ 2 ^ plc64 r := Nat.pow_le_pow_right (by decide) (by omega)
        omega
      have h3 : 4503599627370496 * 2 ^ plc64 r ≤ mag64 r * 2 ^ plc64 r := Nat.mul_le_mul_right _ h1
      omega
    · exact g
  · intro r h
    rcases Nat.lt_or_ge (plc64 r) 800 with g | g
    · exfalso
      have h1 := mag_lt64 r
      unfold val64 at h
      have h2 : mag64 r * 2 ^ plc64 r < 2 ^ 53 * 2 ^ plc64 r := Nat.mul_lt_mul_of_pos_right h1 (Nat.two_pow_pos _)
      rw [← Nat.pow_add] at h2
      have h3 : 2 ^ (53 + plc64 r) ≤ 2 ^ c := Nat.pow_le_pow_right (by decide) (by omega)
      omega
    · exact g
  · intro a
    unfold sampleZ
    exact signed_dvd _ _ (by omega)
  · intro a h
    unfold sampleZ ab
    rw [signed_abs]
    have hp := plc_le32 h
    have h1 : mag32 (rung32 a) * 2 ^ (plc32 (rung32 a) + 925) < 2 ^ 24 * 2 ^ (plc32 (rung32 a) + 925) := Nat.mul_lt_mul_of_pos_right (mag_lt32 _) (Nat.two_pow_pos _)
    rw [← Nat.pow_add] at h1
    exact Nat.lt_of_lt_of_le h1 (Nat.pow_le_pow_right (by decide) (by omega))
  · intro Z h hd
    exact RN_dvd (lg _ h) hd
  · intro k hk
    refine ⟨2 ^ (c - k), ?_⟩
    rw [← Int.pow_add, show k + (c - k) = c by omega, Int.natCast_pow]
    rfl
theorem RN_two {a : Nat} {j : Nat} (hj : j ≤ 3) (h : rung32 a < 2139095040) : RN (sampleZ a * 2 ^ j) = sampleZ a * 2 ^ j := by
  have hp := plc_le32 h
  unfold sampleZ
  rw [← signed_mul]
  obtain ⟨_, _, c⟩ := units_word (s := sgn32 a) (m := mag32 (rung32 a)) (k := plc32 (rung32 a) + 925 + j) (by have := mag_lt32 (rung32 a); omega) (by omega)
  obtain ⟨_, _, _, d⟩ := wordOf_facts (σ := sgn32 a) (Z := Ieee.signed (sgn32 a) (mag32 (rung32 a)) (plc32 (rung32 a) + 925 + j)) (by rw [signed_abs]; exact units_log (cap_units (e := 24) (mag_lt32 _) (by omega))) signed_sign
  rw [← d, c]
theorem shf_dn {D K : Nat} (C : Caps D K) {x : Nat} {Z : Int} (hx : Wf x Z) (k : Nat) (hk : k ≤ 3) (hd : (D : Int) ∣ Z) (hb : ab Z < 64 * K) : ∃ Y, Z = Y * 2 ^ k ∧ Wf (shfW x (-(k : Int))) Y := by
  obtain ⟨Y, hY⟩ : (2 ^ k : Int) ∣ Z := Int.dvd_trans (C.d4 k hk) hd
  have hY : Z = Y * 2 ^ k := by rw [hY, Int.mul_comm]
  have hv : (sval64 x).natAbs = val64 (rung64 x) := val_abs x
  rw [hx.val] at hv
  unfold ab at hb
  refine ⟨Y, hY, shf_down hx k ?_ ?_ hY⟩
  · by_cases h0 : Z = 0
    · exact Or.inr h0
    · left
      have h1 : D ≤ Z.natAbs := Nat.le_of_dvd (by omega) (Int.ofNat_dvd_left.1 hd)
      have := C.lo (rung64 x) (by omega)
      omega
  · have := C.up (rung64 x) (by omega)
    omega
theorem RN_le2 {D K : Nat} (C : Caps D K) {Z : Int} (h : ab Z < 64 * K) : ab (RN Z) ≤ 2 * ab Z := RN_le (C.lg _ h)
theorem ab_two (z : Int) : ab (2 * z) = 2 * ab z := by unfold ab; omega
/-- What ToYCC's numbers are in least units. -/
theorem ycc_vals {D K : Nat} (C : Caps D K) {r g b : Nat} (hr : rung32 r < 2139095040) (hg : rung32 g < 2139095040) (hb : rung32 b < 2139095040) :
    ∃ Y Cg Co : Int, (RN (RN (sampleZ r + sampleZ b) + 2 * sampleZ g) = 4 * Y ∧ srung32 (ycc0 r g b) = RS Y ∧ nanN (ycc0 r g b) = false) ∧ (RN (2 * sampleZ g - RN (sampleZ r + sampleZ b)) = 4 * Cg ∧ srung32 (ycc1 r g b) = RS Cg ∧ nanN (ycc1 r g b) = false) ∧ (RN (sampleZ r - sampleZ b) = 2 * Co ∧ srung32 (ycc2 r g b) = RS Co ∧ nanN (ycc2 r g b) = false) := by
  have R := wide_wf hr
  have G := wide_wf hg
  have B := wide_wf hb
  have r1 := C.sk r hr
  have g1 := C.sk g hg
  have b1 := C.sk b hb
  have r2 := C.sd r
  have g2 := C.sd g
  have b2 := C.sd b
  have p1 := ab_add (sampleZ r) (sampleZ b)
  have p2 := ab_sub (sampleZ r) (sampleZ b)
  have p3 := ab_two (sampleZ g)
  have S := add_wf R B (C.lg _ (by omega))
  have s1 := RN_le2 C (Z := sampleZ r + sampleZ b) (by omega)
  have s2 : (D : Int) ∣ RN (sampleZ r + sampleZ b) := C.rd _ (by omega) (Int.dvd_add r2 b2)
  have Dg : Wf (yD g) (2 * sampleZ g) := by
    unfold yD
    rw [mul_2]
    have := shf_up G 1 (by
      have hv := val_abs (wideW g)
      rw [G.val] at hv
      unfold ab at g1
      have := C.up (rung64 (wideW g)) (by omega)
      omega)
    rw [show sampleZ g * 2 ^ 1 = 2 * sampleZ g by rw [Int.mul_comm]; rfl] at this
    exact this
  have d2 : (D : Int) ∣ 2 * sampleZ g := Int.dvd_trans g2 (Int.dvd_mul_left ..)
  have p4 := ab_add (RN (sampleZ r + sampleZ b)) (2 * sampleZ g)
  have p5 := ab_sub (2 * sampleZ g) (RN (sampleZ r + sampleZ b))
  have A := add_wf S Dg (C.lg _ (by omega))
  have a1 := RN_le2 C (Z := RN (sampleZ r + sampleZ b) + 2 * sampleZ g) (by omega)
  have a2 := C.rd (RN (sampleZ r + sampleZ b) + 2 * sampleZ g) (by omega) (Int.dvd_add s2 d2)
  have E := sub_wf Dg S (C.lg _ (by omega))
  have e1 := RN_le2 C (Z := 2 * sampleZ g - RN (sampleZ r + sampleZ b)) (by omega)
  have e2 := C.rd (2 * sampleZ g - RN (sampleZ r + sampleZ b)) (by omega) (Int.dvd_sub d2 s2)
  have O := sub_wf R B (C.lg _ (by omega))
  have o1 := RN_le2 C (Z := sampleZ r - sampleZ b) (by omega)
  have o2 := C.rd (sampleZ r - sampleZ b) (by omega) (Int.dvd_sub r2 b2)
  obtain ⟨Y, hY, wY⟩ := shf_dn C A 2 (by decide) a2 (by omega)
  obtain ⟨Cg, hC, wC⟩ := shf_dn C E 2 (by decide) e2 (by omega)
  obtain ⟨Co, hO, wO⟩ := shf_dn C O 1 (by decide) o2 (by omega)
  refine ⟨Y, Cg, Co, ⟨by rw [hY, Int.mul_comm]; rfl, ?_⟩, ⟨by rw [hC, Int.mul_comm]; rfl, ?_⟩, ⟨by rw [hO, Int.mul_comm]; rfl, ?_⟩⟩
  · unfold ycc0; rw [quo_4]; exact nar_wf wY
  · unfold ycc1; rw [quo_4]; exact nar_wf wC
  · unfold ycc2; rw [quo_2]; exact nar_wf wO
/-- The mean lies between. -/
theorem mean_between {r g b lo hi : Nat} (hr : rung32 r < 2139095040) (hg : rung32 g < 2139095040) (hb : rung32 b < 2139095040) (hlo : rung32 lo < 2139095040) (hhi : rung32 hi < 2139095040)
    (l1 : srung32 lo ≤ srung32 r) (l2 : srung32 lo ≤ srung32 g) (l3 : srung32 lo ≤ srung32 b) (u1 : srung32 r ≤ srung32 hi) (u2 : srung32 g ≤ srung32 hi) (u3 : srung32 b ≤ srung32 hi) :
    srung32 lo ≤ srung32 (ycc0 r g b) ∧ srung32 (ycc0 r g b) ≤ srung32 hi ∧ nanN (ycc0 r g b) = false := by
  obtain ⟨D, K, C⟩ := caps
  obtain ⟨Y, Cg, Co, ⟨h1, h2, h3⟩, _⟩ := ycc_vals C hr hg hb
  have a1 := samp_le l1
  have a2 := samp_le l2
  have a3 := samp_le l3
  have b1 := samp_le u1
  have b2 := samp_le u2
  have b3 := samp_le u3
  have k2l := RN_two (a := lo) (j := 1) (by decide) hlo
  have k2h := RN_two (a := hi) (j := 1) (by decide) hhi
  have k4l := RN_two (a := lo) (j := 2) (by decide) hlo
  have k4h := RN_two (a := hi) (j := 2) (by decide) hhi
  rw [show (2 : Int) ^ 1 = 2 from rfl] at k2l k2h
  rw [show (2 : Int) ^ 2 = 4 from rfl] at k4l k4h
  have m1 := RN_mono (Y := sampleZ lo * 2) (Z := sampleZ r + sampleZ b) (by omega)
  have m2 := RN_mono (Z := sampleZ hi * 2) (Y := sampleZ r + sampleZ b) (by omega)
  have m3 := RN_mono (Y := sampleZ lo * 4) (Z := RN (sampleZ r + sampleZ b) + 2 * sampleZ g) (by omega)
  have m4 := RN_mono (Z := sampleZ hi * 4) (Y := RN (sampleZ r + sampleZ b) + 2 * sampleZ g) (by omega)
  have n1 := RS_mono (Y := sampleZ lo) (Z := Y) (by omega)
  have n2 := RS_mono (Y := Y) (Z := sampleZ hi) (by omega)
  rw [RS_self hlo] at n1
  rw [RS_self hhi] at n2
  rw [h2]
  exact ⟨n1, n2, h3⟩
end Go.Proofs.Ytlelgifdnhnphab
