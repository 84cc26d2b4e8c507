/- The chapter's examples. -/
import Derived.Test.YtdempklpmggdoaaG9703327c
import Derived.Test.YtdempklpmggdoaaG135da86a
namespace Go.Proofs.Ytdempklpmggdoaa
open Go.RowKit
set_option linter.unusedVariables false
set_option linter.unusedSimpArgs false

theorem num8_any (e : Int) (w : World) : Calls Try.prog 5 #[.int .i64 e] w fun r w' => r = .returned (.int .i64 e) ∧ w' = w := by
  go_enter Try.func5, Try.ntmps5
  go_wp2_with fail
  go_ret
  exact ⟨rfl, rfl⟩
def kL : List Nat := [1065353216, 1073741824, 1082130432]
def kM (i : Nat) : Nat := if i = 2 ∨ i = 4 ∨ i = 6 then 1065353216 else 0
theorem kM_lt (i : Nat) : kM i < 4294967296 := by unfold kM; split <;> decide
theorem ex_affine : chgL (affineV 1073741824 1065353216) (-1) 0 (kL.map (fun x => [x])) = [1077936128, 1084227584, 1091567616].map (fun x => [x]) := by decide +kernel
theorem ex_matrix : mixL (mixM kM 0) (mixM kM 1) (mixM kM 2) (kL.map (fun x => [x])) = [1082130432, 1073741824, 1065353216].map (fun x => [x]) := by decide +kernel
theorem ex_two : zTo subG (kL.map (fun x => [x])) (kL.map (fun x => [x])) 3 = [0, 0, 0].map (fun x => [x]) := by decide +kernel
theorem ex_between : chgL (boundsV 1069547520 1077936128) (-1) 0 (kL.map (fun x => [x])) = [1069547520, 1073741824, 1077936128].map (fun x => [x]) := by decide +kernel
set_option maxHeartbeats 8000000 in
set_option maxRecDepth 100000 in
theorem known8_any (w : World) : Calls Try.prog 4 #[] w fun e w' => e = .returned (.bool true) ∧ Q w w' := by
  have l1 := num8_any
  go_enter Try.func4, Try.ntmps4
  go_wp2_with fail
  refine (place_any _ 1 w.heap.size 0 3 3 kL (uis3 w 1065353216 1073741824 1082130432) rfl (by decide) (by decide) (fun i => ?_)).mono ?_
  · match i with
    | 0 => show (1065353216 : Nat) < _; decide
    | 1 => show (1073741824 : Nat) < _; decide
    | 2 => show (1082130432 : Nat) < _; decide
    | i + 3 => show (0 : Nat) < _; decide
  rintro e w1 ⟨gp, cp, MP, rfl, hMP, HWP, q1⟩
  have HQ1 : Hid (Q w w1) := ((Q.refl w).cells _ _).trans q1
  have HP1 : Hid (Pc w1 gp 0 1 1 MP) := HWP.out.pc
  have HMP : Hid (MP.map PL.S = kL.map (fun x => [x])) := hMP
  have hlen : MP.length = 3 := by have := congrArg List.length hMP; rw [List.length_map, List.length_map] at this; exact this
  have HL : Hid (MP.length = 3) := hlen
  have hcp : 3 ≤ cp := by have := HWP.out.room; omega
  have sp1 : Hid (spcB 1 ((3 : Nat) : Int) = true) := (by decide : spcB 1 ((3 : Nat) : Int) = true)
  clear q1 hMP HWP hlen
  go_wp2_with fail
  have HP2 : Hid (Pc (w1.alloc (Obj.cells #[Value.int IntKind.i64 1, Value.slice (some { block := gp, off := 0 }) 3 cp] 24)) gp 0 1 1 MP) := HP1.out.next ((Q.refl w1).cells _ _)
  have HQ2 : Hid (Q w (w1.alloc (Obj.cells #[Value.int IntKind.i64 1, Value.slice (some { block := gp, off := 0 }) 3 cp] 24))) := HQ1.out.cells _ _
  have b0 : (w1.alloc (Obj.cells #[Value.int IntKind.i64 1, Value.slice (some { block := gp, off := 0 }) 3 cp] 24)).cell? ⟨w1.heap.size, 0, none⟩ = some (.int .i64 1) := by simp [go_sem]
  have b1 : (w1.alloc (Obj.cells #[Value.int IntKind.i64 1, Value.slice (some { block := gp, off := 0 }) 3 cp] 24)).cell? ⟨w1.heap.size, 1, none⟩ = some (.slice (some ⟨gp, 0, none⟩) 3 cp) := by simp [go_sem]
  generalize (w1.alloc (Obj.cells #[Value.int IntKind.i64 1, Value.slice (some { block := gp, off := 0 }) 3 cp] 24)) = w2 at *
  generalize w1.heap.size = B1 at *
  clear HP1 HQ1
  refine (affine_good 1073741824 1065353216 (by decide) (by decide) w2 1 (-1) gp 0 cp 1 1 3 MP HP2.out HL.out hcp sp1.out (Or.inl rfl)).mono ?_
  rintro e w3 ⟨ga, ca, MA, rfl, hMA, HWMA, q3⟩
  have HMA : Hid (MA.map PL.S = [1077936128, 1084227584, 1091567616].map (fun x => [x])) := by show _ = _; rw [hMA, HMP.out]; exact ex_affine
  have Hc0 : 3 ≤ ca := by have h1 := HWMA.out.room; have h2 := congrArg List.length HMA.out; rw [List.length_map] at h2; simp at h2; omega
  have QN0 : Q w2 (w3.alloc (Obj.cells #[Value.int IntKind.i64 1, Value.slice (some { block := ga, off := 0 }) 3 ca] 24)) := q3.cells _ _
  have HP4 : Hid (Pc (w3.alloc (Obj.cells #[Value.int IntKind.i64 1, Value.slice (some { block := ga, off := 0 }) 3 ca] 24)) gp 0 1 1 MP) := HP2.out.next QN0
  have HQ4 : Hid (Q w (w3.alloc (Obj.cells #[Value.int IntKind.i64 1, Value.slice (some { block := ga, off := 0 }) 3 ca] 24))) := HQ2.out.trans QN0
  have NMA : Hid (PcB [1077936128, 1084227584, 1091567616] w3.heap.size (w3.alloc (Obj.cells #[Value.int IntKind.i64 1, Value.slice (some { block := ga, off := 0 }) 3 ca] 24))) := ⟨ga, ca, MA, by simp [go_sem], by simp [go_sem], Hc0, HWMA.out.pc.next ((Q.refl w3).cells _ _), HMA.out⟩
  replace b0 := QN0.cell b0
  replace b1 := QN0.cell b1
  clear hMA HWMA q3 HMA Hc0 HP2 HQ2
  go_wp2_with fail
  generalize (w3.alloc (Obj.cells #[Value.int IntKind.i64 1, Value.slice (some { block := ga, off := 0 }) 3 ca] 24)) = w4 at *
  generalize w3.heap.size = B2 at *
  clear QN0
  refine (matrix_good kM kM_lt w4 1 gp 0 cp 1 1 3 MP HP4.out HL.out hcp (by decide) sp1.out).mono ?_
  rintro e w5 ⟨gb, cb, MB, rfl, hMB, HWMB, q4⟩
  have HMB : Hid (MB.map PL.S = [1082130432, 1073741824, 1065353216].map (fun x => [x])) := by show _ = _; rw [hMB, HMP.out]; exact ex_matrix
  have Hc1 : 3 ≤ cb := by have h1 := HWMB.out.room; have h2 := congrArg List.length HMB.out; rw [List.length_map] at h2; simp at h2; omega
  have QN1 : Q w4 (w5.alloc (Obj.cells #[Value.int IntKind.i64 1, Value.slice (some { block := gb, off := 0 }) 3 cb] 24)) := q4.cells _ _
  have HP6 : Hid (Pc (w5.alloc (Obj.cells #[Value.int IntKind.i64 1, Value.slice (some { block := gb, off := 0 }) 3 cb] 24)) gp 0 1 1 MP) := HP4.out.next QN1
  have HQ6 : Hid (Q w (w5.alloc (Obj.cells #[Value.int IntKind.i64 1, Value.slice (some { block := gb, off := 0 }) 3 cb] 24))) := HQ4.out.trans QN1
  have NMB : Hid (PcB [1082130432, 1073741824, 1065353216] w5.heap.size (w5.alloc (Obj.cells #[Value.int IntKind.i64 1, Value.slice (some { block := gb, off := 0 }) 3 cb] 24))) := ⟨gb, cb, MB, by simp [go_sem], by simp [go_sem], Hc1, HWMB.out.pc.next ((Q.refl w5).cells _ _), HMB.out⟩
  replace NMA : Hid (PcB [1077936128, 1084227584, 1091567616] B2 (w5.alloc (Obj.cells #[Value.int IntKind.i64 1, Value.slice (some { block := gb, off := 0 }) 3 cb] 24))) := NMA.out.next QN1
  replace b0 := QN1.cell b0
  replace b1 := QN1.cell b1
  clear hMB HWMB q4 HMB Hc1 HP4 HQ4
  go_wp2_with fail
  generalize (w5.alloc (Obj.cells #[Value.int IntKind.i64 1, Value.slice (some { block := gb, off := 0 }) 3 cb] 24)) = w6 at *
  generalize w5.heap.size = B3 at *
  clear QN1
  refine (two_good kind_sub w6 1 gp 0 cp gp 0 cp 1 1 3 MP MP HP6.out HL.out hcp HP6.out HL.out hcp sp1.out).mono ?_
  rintro e w7 ⟨gc, cc, MC, rfl, hMC, HWMC, q5⟩
  have HMC : Hid (MC.map PL.S = [0, 0, 0].map (fun x => [x])) := by show _ = _; rw [hMC, HMP.out]; exact ex_two
  have Hc2 : 3 ≤ cc := by have h1 := HWMC.out.room; have h2 := congrArg List.length HMC.out; rw [List.length_map] at h2; simp at h2; omega
  have QN2 : Q w6 (w7.alloc (Obj.cells #[Value.int IntKind.i64 1, Value.slice (some { block := gc, off := 0 }) 3 cc] 24)) := q5.cells _ _
  have HP8 : Hid (Pc (w7.alloc (Obj.cells #[Value.int IntKind.i64 1, Value.slice (some { block := gc, off := 0 }) 3 cc] 24)) gp 0 1 1 MP) := HP6.out.next QN2
  have HQ8 : Hid (Q w (w7.alloc (Obj.cells #[Value.int IntKind.i64 1, Value.slice (some { block := gc, off := 0 }) 3 cc] 24))) := HQ6.out.trans QN2
  have NMC : Hid (PcB [0, 0, 0] w7.heap.size (w7.alloc (Obj.cells #[Value.int IntKind.i64 1, Value.slice (some { block := gc, off := 0 }) 3 cc] 24))) := ⟨gc, cc, MC, by simp [go_sem], by simp [go_sem], Hc2, HWMC.out.pc.next ((Q.refl w7).cells _ _), HMC.out⟩
  replace NMA : Hid (PcB [1077936128, 1084227584, 1091567616] B2 (w7.alloc (Obj.cells #[Value.int IntKind.i64 1, Value.slice (some { block := gc, off := 0 }) 3 cc] 24))) := NMA.out.next QN2
  replace NMB : Hid (PcB [1082130432, 1073741824, 1065353216] B3 (w7.alloc (Obj.cells #[Value.int IntKind.i64 1, Value.slice (some { block := gc, off := 0 }) 3 cc] 24))) := NMB.out.next QN2
  replace b0 := QN2.cell b0
  replace b1 := QN2.cell b1
  clear hMC HWMC q5 HMC Hc2 HP6 HQ6
  go_wp2_with fail
  generalize (w7.alloc (Obj.cells #[Value.int IntKind.i64 1, Value.slice (some { block := gc, off := 0 }) 3 cc] 24)) = w8 at *
  generalize w7.heap.size = B4 at *
  clear QN2
  refine (bounds_good 1069547520 1077936128 (by decide) (by decide) w8 1 (-1) gp 0 cp 1 1 3 MP HP8.out HL.out hcp sp1.out (Or.inl rfl)).mono ?_
  rintro e w9 ⟨gd, cd, MD, rfl, hMD, HWMD, q6⟩
  have HMD : Hid (MD.map PL.S = [1069547520, 1073741824, 1077936128].map (fun x => [x])) := by show _ = _; rw [hMD, HMP.out]; exact ex_between
  have Hc3 : 3 ≤ cd := by have h1 := HWMD.out.room; have h2 := congrArg List.length HMD.out; rw [List.length_map] at h2; simp at h2; omega
  have QN3 : Q w8 (w9.alloc (Obj.cells #[Value.int IntKind.i64 1, Value.slice (some { block := gd, off := 0 }) 3 cd] 24)) := q6.cells _ _
  have HP10 : Hid (Pc (w9.alloc (Obj.cells #[Value.int IntKind.i64 1, Value.slice (some { block := gd, off := 0 }) 3 cd] 24)) gp 0 1 1 MP) := HP8.out.next QN3
  have HQ10 : Hid (Q w (w9.alloc (Obj.cells #[Value.int IntKind.i64 1, Value.slice (some { block := gd, off := 0 }) 3 cd] 24))) := HQ8.out.trans QN3
  have NMD : Hid (PcB [1069547520, 1073741824, 1077936128] w9.heap.size (w9.alloc (Obj.cells #[Value.int IntKind.i64 1, Value.slice (some { block := gd, off := 0 }) 3 cd] 24))) := ⟨gd, cd, MD, by simp [go_sem], by simp [go_sem], Hc3, HWMD.out.pc.next ((Q.refl w9).cells _ _), HMD.out⟩
  replace NMA : Hid (PcB [1077936128, 1084227584, 1091567616] B2 (w9.alloc (Obj.cells #[Value.int IntKind.i64 1, Value.slice (some { block := gd, off := 0 }) 3 cd] 24))) := NMA.out.next QN3
  replace NMB : Hid (PcB [1082130432, 1073741824, 1065353216] B3 (w9.alloc (Obj.cells #[Value.int IntKind.i64 1, Value.slice (some { block := gd, off := 0 }) 3 cd] 24))) := NMB.out.next QN3
  replace NMC : Hid (PcB [0, 0, 0] B4 (w9.alloc (Obj.cells #[Value.int IntKind.i64 1, Value.slice (some { block := gd, off := 0 }) 3 cd] 24))) := NMC.out.next QN3
  replace b0 := QN3.cell b0
  replace b1 := QN3.cell b1
  clear hMD HWMD q6 HMD Hc3 HP8 HQ8
  go_wp2_with fail
  generalize (w9.alloc (Obj.cells #[Value.int IntKind.i64 1, Value.slice (some { block := gd, off := 0 }) 3 cd] 24)) = w10 at *
  generalize w9.heap.size = B5 at *
  clear QN3
  refine (new8_81 1 2 (a := 1) (b := 1) ⟨by decide, by decide, by decide, by decide, by decide⟩ 0 (by decide) (by decide) w10).mono ?_
  rintro e w11 ⟨rfl, qe0⟩
  have QE0 : Q w10 (w11.alloc (Obj.cells #[Value.int IntKind.i64 0, Value.slice none 0 0] 24)) := qe0.cells _ _
  have HQ12 : Hid (Q w (w11.alloc (Obj.cells #[Value.int IntKind.i64 0, Value.slice none 0 0] 24))) := HQ10.out.trans QE0
  replace NMA : Hid (PcB [1077936128, 1084227584, 1091567616] B2 (w11.alloc (Obj.cells #[Value.int IntKind.i64 0, Value.slice none 0 0] 24))) := NMA.out.next QE0
  replace NMB : Hid (PcB [1082130432, 1073741824, 1065353216] B3 (w11.alloc (Obj.cells #[Value.int IntKind.i64 0, Value.slice none 0 0] 24))) := NMB.out.next QE0
  replace NMC : Hid (PcB [0, 0, 0] B4 (w11.alloc (Obj.cells #[Value.int IntKind.i64 0, Value.slice none 0 0] 24))) := NMC.out.next QE0
  replace NMD : Hid (PcB [1069547520, 1073741824, 1077936128] B5 (w11.alloc (Obj.cells #[Value.int IntKind.i64 0, Value.slice none 0 0] 24))) := NMD.out.next QE0
  clear qe0 HQ10
  clear b0 b1 HP10
  go_wp2_with fail
  generalize (w11.alloc (Obj.cells #[Value.int IntKind.i64 0, Value.slice none 0 0] 24)) = w12 at *
  clear QE0
  refine (new8_80 0 5 1 1 0 (by decide) w12).mono ?_
  rintro e w13 ⟨rfl, qe1⟩
  have QE1 : Q w12 (w13.alloc (Obj.cells #[Value.int IntKind.i64 0, Value.slice none 0 0] 24)) := qe1.cells _ _
  have HQ14 : Hid (Q w (w13.alloc (Obj.cells #[Value.int IntKind.i64 0, Value.slice none 0 0] 24))) := HQ12.out.trans QE1
  replace NMA : Hid (PcB [1077936128, 1084227584, 1091567616] B2 (w13.alloc (Obj.cells #[Value.int IntKind.i64 0, Value.slice none 0 0] 24))) := NMA.out.next QE1
  replace NMB : Hid (PcB [1082130432, 1073741824, 1065353216] B3 (w13.alloc (Obj.cells #[Value.int IntKind.i64 0, Value.slice none 0 0] 24))) := NMB.out.next QE1
  replace NMC : Hid (PcB [0, 0, 0] B4 (w13.alloc (Obj.cells #[Value.int IntKind.i64 0, Value.slice none 0 0] 24))) := NMC.out.next QE1
  replace NMD : Hid (PcB [1069547520, 1073741824, 1077936128] B5 (w13.alloc (Obj.cells #[Value.int IntKind.i64 0, Value.slice none 0 0] 24))) := NMD.out.next QE1
  clear qe1 HQ12
  skip
  go_wp2_with (go_at_call 5; refine (l1 _ _).mono ?_; rintro e w1 ⟨rfl, rfl⟩)
  generalize (w13.alloc (Obj.cells #[Value.int IntKind.i64 0, Value.slice none 0 0] 24)) = w14 at *
  clear QE1
  refine regionKn rfl rfl (V2 := B2) (V4 := B3) (V6 := B4) (V8 := B5) ⟨rfl, rfl, rfl, rfl, NMA.out, NMB.out, NMC.out, NMD.out⟩ ?_
  intro x v0 v1 v2 v5 v6 v7 v11 v12 v13 v17 v18 v19 qx
  have HX : Hid (Q w x) := HQ14.out.trans qx
  clear qx NMA NMB NMC NMD HQ14
  simp only [putAll]
  go_wp2_with fail
  refine bodyPost_ret (v := .bool true) (by simp [results, Try.results4, go_sem]) rfl ⟨rfl, HX.out⟩
end Go.Proofs.Ytdempklpmggdoaa
/- A piece of a picture. -/
namespace Go.Proofs.Ytdempklpmggdoaa
open Go.RowKit
set_option linter.unusedVariables false
set_option linter.unusedSimpArgs false

theorem wpList_appop {P : Program} {ops : Array Oper} {rest : List Oper} {o : Oper} {a : Act} {R : Exit → Act → World → Prop} {x x' : World} (s u : Operand) (t : TypeId) (hgd : o.guard = none) (ho : o.op = .call { callee := .builtin .append, args := #[s, u], argTypes := #[t, t] }) {v v' r : Value} (hs : a.eval s = v) (hu : a.eval u = v') (hr : (Builtin.append_ #[t, t] o.type #[v, v']).run P x = .ok r x') (h : wpList P ops R rest (a.put o.dst r) x') : wpList P ops R (o :: rest) a x := by
  refine wpList_plain hgd fun _ hK => ?_
  unfold Oper.wp execOp
  simp only [ho, resolve, invoke, builtin, Sem.run_bind, Sem.run_pure, Result.andThen_ok, List.map_toArray, List.map_cons, List.map_nil, hs, hu, hr]
  exact hK _ _ h
def cutL (a x0 y0 c d : Nat) (S : List Nat) : List Nat := tab c d fun x y => smp S a (x0 + x) (y0 + y)
theorem cutL_len (a x0 y0 c d : Nat) (S : List Nat) : (cutL a x0 y0 c d S).length = c * d := tab_length _ _ _
theorem cutL_lt {a x0 y0 c d : Nat} {S : List Nat} (h : ∀ i, S.getD i 0 < 4294967296) (i : Nat) : (cutL a x0 y0 c d S).getD i 0 < 4294967296 := tab_lt (by decide) (fun x y => h _) i
set_option maxHeartbeats 4000000 in
set_option maxRecDepth 100000 in
theorem crop8_good {x0 y0 c d : Nat} (XX YY : Int) (hXX : XX = (x0 + c : Nat)) (hYY : YY = (y0 + d : Nat)) (w : World) (sp : Int) (g o cap a b n : Nat) (L : List PL) (hr : Rct a b x0 y0 c d) (h : Pc w g o a b L) (hn : L.length = n) (hcap : n ≤ cap) (hsp : spcB sp n = true) :
    Calls Try.prog 7 #[.agg #[.int .i64 sp, .slice (some ⟨g, o, none⟩) n cap], .agg #[.int .i64 (x0 : Int), .int .i64 (y0 : Int), .int .i64 XX, .int .i64 YY]] w fun e w' => ∃ g' cap' M, e = .returned (.tuple #[.agg #[.int .i64 sp, .slice (some ⟨g', 0, none⟩) n cap'], .int .i64 0]) ∧ M.map PL.S = (L.map PL.S).map (cutL a x0 y0 c d) ∧ Hid (Nw w.heap.size w' g' cap' c d M) ∧ Q w w' := by
  have HP : Hid (Pc w g o a b L) := h
  have HN : Hid (L.length = n) := hn
  have HSZ : Hid (Size c d) := hr.size h.size
  have HRC : Hid (Rct a b x0 y0 c d ∧ XX = (x0 + c : Nat) ∧ YY = (y0 + d : Nat)) := ⟨hr, hXX, hYY⟩
  have n4 : n ≤ 4 := by rw [← hn]; exact h.n4
  have n1 : 1 ≤ n := by rw [← hn]; exact h.n1
  have HSP : Hid (spcB sp n = true) := hsp
  clear h hn hsp hr hXX hYY
  have qa : Hid (∀ a b c d e f, Q w (((w.alloc (.cells a b)).alloc (.cells c d)).alloc (.cells e f))) := fun a b c d e f => (((Q.refl w).cells _ _).cells _ _).cells _ _
  obtain ⟨X0, hX0⟩ : ∃ X : Int, (x0 : Int) = X := ⟨_, rfl⟩
  obtain ⟨Y0, hY0⟩ : ∃ X : Int, (y0 : Int) = X := ⟨_, rfl⟩
  have HXY : Hid ((x0 : Int) = X0 ∧ (y0 : Int) = Y0) := ⟨hX0, hY0⟩
  rw [hX0, hY0]
  clear hX0 hY0
  go_enter Try.func7, Try.ntmps7
  go_wp2_with fail
  refine (pcheck_good (HP.out.next (qa.out _ _ _ _ _ _)) HN.out hcap HSP.out).mono ?_
  rintro e w1 ⟨rfl, q1⟩
  have HQ1 : Hid (Q w w1) := (qa.out _ _ _ _ _ _).trans q1
  have p0 : w1.cell? ⟨w.heap.size, 0, none⟩ = some (.int .i64 sp) := q1.cell (by simp [go_sem])
  have p1 : w1.cell? ⟨w.heap.size, 1, none⟩ = some (.slice (some ⟨g, o, none⟩) n cap) := q1.cell (by simp [go_sem])
  have c0 : w1.cell? ⟨w.heap.size + 1, 0, none⟩ = some (.int .i64 X0) := q1.cell (by simp [go_sem])
  have c1 : w1.cell? ⟨w.heap.size + 1, 1, none⟩ = some (.int .i64 Y0) := q1.cell (by simp [go_sem])
  have c2 : w1.cell? ⟨w.heap.size + 1, 2, none⟩ = some (.int .i64 XX) := q1.cell (by simp [go_sem])
  have c3 : w1.cell? ⟨w.heap.size + 1, 3, none⟩ = some (.int .i64 YY) := q1.cell (by simp [go_sem])
  have r0 : w1.cell? ⟨w.heap.size + 1 + 1, 0, none⟩ = some (.int .i64 0) := q1.cell (by simp [go_sem])
  have r1 : w1.cell? ⟨w.heap.size + 1 + 1, 1, none⟩ = some (.slice none 0 0) := q1.cell (by simp [go_sem])
  have rf : ∀ j, w1.frozen? ⟨w.heap.size + 1 + 1, j, none⟩ = false := fun j => (q1.2 _).trans (by simp [go_sem])
  clear q1
  have hlt2 : w.heap.size + 1 + 1 < w1.heap.size := cell_in r0
  have HQ2 := HQ1
  generalize w1 = w2 at *
  have p0' := fun c t => ((Q.refl w2).cells c t).cell p0
  have p1' := fun c t => ((Q.refl w2).cells c t).cell p1
  go_wp2_with fail
  have q23 : Q w2 (w2.alloc (Obj.cells #[Value.int IntKind.i64 sp, Value.slice none 0 0] 24)) := (Q.refl w2).cells _ _
  have hz3 : (w2.alloc (Obj.cells #[Value.int IntKind.i64 sp, Value.slice none 0 0] 24)).heap.size = w2.heap.size + 1 := by simp
  have HB : Hid (Bld (w2.heap.size + 1) (w2.alloc (Obj.cells #[Value.int IntKind.i64 sp, Value.slice none 0 0] 24)) w2.heap.size sp (.slice none 0 0) c d []) := Bld.start (by simp [go_sem]) (by simp [go_sem]) (fun j => by simp [go_sem]) (by omega) c d
  generalize (w2.alloc (Obj.cells #[Value.int IntKind.i64 sp, Value.slice none 0 0] 24)) = w3 at *
  clear p0' p1'
  have HQ3 : Hid (Q w w3) := HQ2.out.trans q23
  replace c0 := q23.cell c0
  replace c1 := q23.cell c1
  replace c2 := q23.cell c2
  replace c3 := q23.cell c3
  replace r0 := q23.cell r0
  replace r1 := q23.cell r1
  replace rf : ∀ j, w3.frozen? ⟨w.heap.size + 1 + 1, j, none⟩ = false := fun j => (q23.2 _).trans (rf j)
  have hb3 : w.heap.size + 1 + 1 < w2.heap.size := hlt2
  go_loopg [24] n (fun m s24 wx => ∃ (i : Nat) (v : Value) (M : List PL), s24 = .int .i64 i ∧ i + m = n ∧ Hid (M.map PL.S = ((L.take i).map PL.S).map (cutL a x0 y0 c d)) ∧ Hid (Bld (w2.heap.size + 1) wx w2.heap.size sp v c d M) ∧ Hid (Q w wx) ∧ Hid (Fr w3 wx (fun b => b ≠ w2.heap.size ∧ b < w2.heap.size + 1)))
  case atStart => exact ⟨0, _, [], rfl, by omega, rfl, HB, HQ3, Fr.refl _ _⟩
  case round =>
    obtain ⟨i, v, M, rfl, him, HS, HB, HQ, HF8⟩ := hrel
    have hml : M.length = i := by have := congrArg List.length HS.out; rw [List.length_map, List.length_map, List.length_map, List.length_take, HN.out] at this; omega
    by_cases hi : i < n
    · have hi0 : (0 : Int) ≤ (i : Int) := by omega
      have hi1 : (i : Int) < (n : Int) := by omega
      obtain ⟨x, hx⟩ : ∃ x, L[i]? = some x := ⟨_, List.getElem?_eq_getElem (by rw [HN.out]; exact hi)⟩
      obtain ⟨d0, d1, d2⟩ := (HP.out.row.next HQ.out) i x hx
      unfold PL.v at d2
      have hgx : Hid (Gd w (a * b) x) := HP.out.it x (List.mem_of_getElem? hx)
      have HX : Hid (L[i]? = some x) := hx
      have c0r := HF8.out.cell c0 ⟨by show w.heap.size + 1 ≠ _; omega, by show w.heap.size + 1 < _; omega⟩
      have c1r := HF8.out.cell c1 ⟨by show w.heap.size + 1 ≠ _; omega, by show w.heap.size + 1 < _; omega⟩
      have c2r := HF8.out.cell c2 ⟨by show w.heap.size + 1 ≠ _; omega, by show w.heap.size + 1 < _; omega⟩
      have c3r := HF8.out.cell c3 ⟨by show w.heap.size + 1 ≠ _; omega, by show w.heap.size + 1 < _; omega⟩
      have e0 := fun c t => ((Q.refl wr).cells c t).cell c0r
      have e1 := fun c t => ((Q.refl wr).cells c t).cell c1r
      have e2 := fun c t => ((Q.refl wr).cells c t).cell c2r
      have e3 := fun c t => ((Q.refl wr).cells c t).cell c3r
      clear hx
      go_wp2_with fail
      have hq3 : Q wr (wr.alloc (Obj.cells #[Value.int IntKind.i64 ↑a, Value.int IntKind.i64 ↑b, Value.slice (some { block := x.g, off := x.o }) x.S.length x.cap] 47)) := (Q.refl wr).cells _ _
      have HB4 : Hid (Bld (w2.heap.size + 1) (wr.alloc (Obj.cells #[Value.int IntKind.i64 ↑a, Value.int IntKind.i64 ↑b, Value.slice (some { block := x.g, off := x.o }) x.S.length x.cap] 47)) w2.heap.size sp v c d M) := HB.out.next hq3
      have HQ4 : Hid (Q w (wr.alloc (Obj.cells #[Value.int IntKind.i64 ↑a, Value.int IntKind.i64 ↑b, Value.slice (some { block := x.g, off := x.o }) x.S.length x.cap] 47))) := HQ.out.trans hq3
      have hz4 : wr.heap.size < (wr.alloc (Obj.cells #[Value.int IntKind.i64 ↑a, Value.int IntKind.i64 ↑b, Value.slice (some { block := x.g, off := x.o }) x.S.length x.cap] 47)).heap.size := by simp
      clear e0 e1 e2 e3 d0 d1 d2
      generalize (wr.alloc (Obj.cells #[Value.int IntKind.i64 ↑a, Value.int IntKind.i64 ↑b, Value.slice (some { block := x.g, off := x.o }) x.S.length x.cap] 47)) = w4 at *
      have HC := crop_good HP.out.size hgx.out.len x.g x.o x.cap HRC.out.1 XX YY HRC.out.2.1 HRC.out.2.2 w4 (hgx.out.us.next HQ4.out)
      rw [HXY.out.1, HXY.out.2] at HC
      refine HC.mono ?_
      clear HC
      rintro e w5 ⟨gy, rfl, ho⟩
      have hq45 : Q w4 w5 := ho.q
      have hYl : (cutL a x0 y0 c d x.S).length = c * d := cutL_len _ _ _ _ _ _
      obtain ⟨y, hy⟩ : ∃ y : PL, y = ⟨gy, 0, c * d, cutL a x0 y0 c d x.S⟩ := ⟨_, rfl⟩
      have hm : Hid (Mine (w2.heap.size + 1) w5 (c * d) y) := by
        have hs3 := HF8.out.size
        have hs4 := hq3.1.size
        subst hy
        refine ⟨rfl, Nat.le_trans (by omega) ho.new, ?_, ⟨hYl, by show (cutL a x0 y0 c d x.S).length ≤ c * d; omega, ho.cells, cutL_lt hgx.out.lt⟩, ho.free, fun j hj => ?_, ?_⟩
        · have h1 := HSZ.out.pos
          exact cell_in (ho.cells 0 (by rw [tab_length]; omega))
        · have := ho.cells j (by rw [tab_length]; exact hj)
          rw [Nat.zero_add] at this
          exact ⟨_, this⟩
        · have := HSZ.out.ab
          show c * d ≤ maxLen
          unfold maxLen; omega
      have HY : Hid (y.S = cutL a x0 y0 c d x.S) := by rw [hy]; rfl
      have hyv : y.v = .slice (some ⟨gy, 0, none⟩) (c * d) (c * d) := by rw [hy]; unfold PL.v; rw [hYl]
      have hyg : y.g = gy := by rw [hy]
      have hlow := ho.new
      have q6 : Q w4 (w5.alloc (Obj.cells #[Value.int IntKind.i64 ↑c, Value.int IntKind.i64 ↑d, Value.slice (some { block := gy, off := 0 }) (c * d) (c * d)] 47)) := hq45.cells _ _
      have HB6 : Hid (Bld (w2.heap.size + 1) (w5.alloc (Obj.cells #[Value.int IntKind.i64 ↑c, Value.int IntKind.i64 ↑d, Value.slice (some { block := gy, off := 0 }) (c * d) (c * d)] 47)) w2.heap.size sp v c d M) := HB4.out.next q6
      have HM6 : Hid (Mine (w2.heap.size + 1) (w5.alloc (Obj.cells #[Value.int IntKind.i64 ↑c, Value.int IntKind.i64 ↑d, Value.slice (some { block := gy, off := 0 }) (c * d) (c * d)] 47)) (c * d) y) := hm.out.next ((Q.refl w5).cells _ _)
      have k0 : (w5.alloc (Obj.cells #[Value.int IntKind.i64 ↑c, Value.int IntKind.i64 ↑d, Value.slice (some { block := gy, off := 0 }) (c * d) (c * d)] 47)).cell? ⟨w5.heap.size, 0, none⟩ = some (.int .i64 (c : Int)) := by simp [go_sem]
      have k1 : (w5.alloc (Obj.cells #[Value.int IntKind.i64 ↑c, Value.int IntKind.i64 ↑d, Value.slice (some { block := gy, off := 0 }) (c * d) (c * d)] 47)).cell? ⟨w5.heap.size, 1, none⟩ = some (.int .i64 (d : Int)) := by simp [go_sem]
      have k2 : (w5.alloc (Obj.cells #[Value.int IntKind.i64 ↑c, Value.int IntKind.i64 ↑d, Value.slice (some { block := gy, off := 0 }) (c * d) (c * d)] 47)).cell? ⟨w5.heap.size, 2, none⟩ = some (.slice (some ⟨gy, 0, none⟩) (c * d) (c * d)) := by simp [go_sem]
      have t1 := HB6.out.c1
      have hz6 : (w5.alloc (Obj.cells #[Value.int IntKind.i64 ↑c, Value.int IntKind.i64 ↑d, Value.slice (some { block := gy, off := 0 }) (c * d) (c * d)] 47)).heap.size = w5.heap.size + 1 := by simp
      have HQ6 : Hid (Q w (w5.alloc (Obj.cells #[Value.int IntKind.i64 ↑c, Value.int IntKind.i64 ↑d, Value.slice (some { block := gy, off := 0 }) (c * d) (c * d)] 47))) := HQ4.out.trans q6
      have one : ∀ j u, (plL c d y)[j]? = some u → ((w5.alloc (Obj.cells #[Value.int IntKind.i64 ↑c, Value.int IntKind.i64 ↑d, Value.slice (some { block := gy, off := 0 }) (c * d) (c * d)] 47)).alloc (Obj.cells #[Value.int IntKind.i64 ↑c, Value.int IntKind.i64 ↑d, Value.slice (some { block := gy, off := 0 }) (c * d) (c * d)] 47)).cell? ((⟨w5.heap.size + 1, 0, none⟩ : Addr).add j) = some u := by
        have := one_pl (w := (w5.alloc (Obj.cells #[Value.int IntKind.i64 ↑c, Value.int IntKind.i64 ↑d, Value.slice (some { block := gy, off := 0 }) (c * d) (c * d)] 47))) (t := 47) c d y
        rw [hyv, hz6] at this
        exact this
      have hs3 := HF8.out.size
      have hs4 := hq3.1.size
      have hs5 := hq45.1.size
      obtain ⟨g7, cap7, w7, hr7, ct7, cf7, HB7, HQ7, HF7⟩ := (HB6.out.next ((Q.refl _).cells #[.int .i64 (c : Int), .int .i64 (d : Int), .slice (some ⟨gy, 0, none⟩) (c * d) (c * d)] 47)).app (HQ6.out.cells #[.int .i64 (c : Int), .int .i64 (d : Int), .slice (some ⟨gy, 0, none⟩) (c * d) (c * d)] 47) (by omega) (by simp; omega) (y := y) (HM6.out.next ((Q.refl _).cells _ _)) (fun e => by have := (own_lt HB4.out.row.own e).2; omega) (fun z hz' e => by have := (HB4.out.row.it z hz').1.high; omega) (by omega) (ad := ⟨w5.heap.size + 1, 0, none⟩) (c := 1) one
      have HF9 : Hid (Fr w3 (w7.setCell ⟨w2.heap.size, 1, none⟩ (.slice (some ⟨g7, 0, none⟩) (M.length + 1) cap7)) (fun b => b ≠ w2.heap.size ∧ b < w2.heap.size + 1)) := (HF8.out.trans ((hq3.trans (q6.cells _ _)).fr _)).trans (HF7.out.mono (fun z hz' _ => ⟨hz'.1, fun e => by have := (own_lt HB4.out.row.own e).1; omega⟩))
      have HM : Hid ((M ++ [y]).map PL.S = ((L.take (i + 1)).map PL.S).map (cutL a x0 y0 c d)) := by
        show _ = _
        rw [List.take_add_one, HX.out, List.map_append, List.map_append, List.map_append, HS.out]
        show _ ++ [y.S] = _ ++ [cutL a x0 y0 c d x.S]
        rw [HY.out]
      clear hm ho hy one hyv hyg hz6 HM6 q6 HB6 HQ6 hq45 hs3 hs4 hs5 hYl hlow HF7
      rw [hml] at hr7 HB7 HQ7 HF9
      go_wp2_with (at_builtin; go_must (refine wpList_appop (.tmp 39) (.tmp 41) 22 rfl rfl (by simp [Act.eval, Act.put]) (by simp [Act.eval, Act.put]) hr7 ?_))
      generalize w7.setCell ⟨w2.heap.size, 1, none⟩ (.slice (some ⟨g7, 0, none⟩) (i + 1) cap7) = w8 at *
      go_roundg (n - (i + 1))
      case measure => go_light; omega
      case rel => go_light; exact ⟨i + 1, _, _, by go_num, by omega, HM, HB7, HQ7, HF9⟩
    · have hie : i = n := by omega
      have HM : Hid (M.map PL.S = (L.map PL.S).map (cutL a x0 y0 c d)) := by have := HS.out; rw [hie, List.take_of_length_le (by rw [HN.out]; exact Nat.le_refl _)] at this; exact this
      have t0 := HB.out.c0
      have t1 := HB.out.c1
      have r0r := HF8.out.cell r0 ⟨by show w.heap.size + 1 + 1 ≠ _; omega, by show w.heap.size + 1 + 1 < _; omega⟩
      have r1r := HF8.out.cell r1 ⟨by show w.heap.size + 1 + 1 ≠ _; omega, by show w.heap.size + 1 + 1 < _; omega⟩
      have rfr : ∀ j, wr.frozen? ⟨w.heap.size + 1 + 1, j, none⟩ = false := fun j => (HF8.out.frz _).trans (rf j)
      obtain ⟨hvo, ⟨hv1, hv2⟩ | ⟨gv, capv, cur, hv1, hv2⟩⟩ := HB.out.row.own
      · omega
      · subst hv1
        have HW : Hid (Nw (w2.heap.size + 1) wr gv capv c d M) := HB.out.row.nw HSZ.out (by omega) (by omega)
        rw [hml, hie] at t1
        clear hv2 hvo
        go_wp2_with fail
        have F9 : Fr wr ((wr.setCell ⟨w.heap.size + 1 + 1, 0, none⟩ (.int .i64 sp)).setCell ⟨w.heap.size + 1 + 1, 1, none⟩ (.slice (some ⟨gv, 0, none⟩) n capv)) (fun b => b ≠ w.heap.size + 1 + 1) := ((Fr.refl wr _).set (fun h => h rfl) _).set (fun h => h rfl) _
        refine bodyPost_ret (v := .tuple #[.agg #[.int .i64 sp, .slice (some ⟨gv, 0, none⟩) n capv], .int .i64 0]) (by simp [results, Try.results7, go_sem, r0r, r1r]) rfl ⟨gv, capv, M, rfl, HM.out, (HW.out.keep F9 (by have := HW.out.low; omega) (fun x hx => by have := (HW.out.it x hx).1.low; omega)).mono (by omega), (HQ.out.set (by show _ ≤ w.heap.size + 1 + 1; omega) _).set (by show _ ≤ w.heap.size + 1 + 1; omega) _⟩
end Go.Proofs.Ytdempklpmggdoaa
/- A piece of a plane, as the statements' helper makes it: row by row. -/
namespace Go.Proofs.Ytdempklpmggdoaa
open Go.RowKit
set_option linter.unusedVariables false
set_option linter.unusedSimpArgs false

theorem wordInfo : ∃ i, Try.prog.info? 27 = some i ∧ i.size = 1 ∧ i.bytes = 4 ∧ i.zero = some (.int .u32 0) :=
  info_of (by kernel_rfl) (by kernel_rfl)
def wdL (xs : List Nat) : List Value := xs.map fun x : Nat => Value.int .u32 (x : Int)
theorem wdL_len (xs : List Nat) : (wdL xs).length = xs.length := List.length_map ..
theorem wdL_app (xs ys : List Nat) : wdL (xs ++ ys) = wdL xs ++ wdL ys := List.map_append ..
theorem wdL_one (xs : List Nat) : ∀ u ∈ wdL xs, u.oneCell' = true := fun u hu => by
  obtain ⟨x, _, rfl⟩ := List.mem_map.1 hu
  rfl
theorem wdL_get {xs : List Nat} {j : Nat} (h : j < xs.length) : (wdL xs)[j]? = some (.int .u32 ((xs.getD j 0 : Nat) : Int)) := by
  unfold wdL
  rw [List.getElem?_map, List.getD_eq_getElem?_getD, List.getElem?_eq_getElem h]
  rfl
/-- A plane that is being built. -/
structure Sbl (base : Nat) (w : World) (tb : Nat) (c d : Int) (v : Value) (xs : List Nat) : Prop where
  c0 : w.cell? ⟨tb, 0, none⟩ = some (.int .i64 c)
  c1 : w.cell? ⟨tb, 1, none⟩ = some (.int .i64 d)
  c2 : w.cell? ⟨tb, 2, none⟩ = some v
  fz : ∀ j, w.frozen? ⟨tb, j, none⟩ = false
  row : w.ownsRow base 27 1 v xs.length (wdL xs)
  tb : tb < base
theorem own_nx {w w' : World} {base : Nat} {e : TypeId} {size n : Nat} {v : Value} {xs : List Value} (h : w.ownsRow base e size v n xs) (q : Q w w') : w'.ownsRow base e size v n xs := (q.fr fun _ => True).row h (fun _ _ => trivial)
theorem Sbl.next {base : Nat} {w w' : World} {tb : Nat} {c d : Int} {v : Value} {xs : List Nat} (h : Sbl base w tb c d v xs) (q : Q w w') : Sbl base w' tb c d v xs :=
  ⟨q.cell h.c0, q.cell h.c1, q.cell h.c2, fun j => (q.2 _).trans (h.fz j), own_nx h.row q, h.tb⟩
theorem Sbl.app {base : Nat} {w0 w : World} {tb : Nat} {sc sd : Int} {v : Value} {xs : List Nat} (h : Sbl base w tb sc sd v xs) (q0 : Q w0 w) (hb : w0.heap.size ≤ tb) (hw : base ≤ w.heap.size) {ys : List Nat} (hy : 0 < ys.length) (hM : xs.length + ys.length ≤ 65536) {ad : Addr} {m c : Nat} (hm : ys.length = m) (hc : ∀ j u, (wdL ys)[j]? = some u → w.cell? (ad.add j) = some u) :
    ∃ g cap w', (Builtin.append_ #[45, 45] 45 #[v, .slice (some ad) m c]).run Try.prog w = .ok (.slice (some ⟨g, 0, none⟩) (xs.length + m) cap) w' ∧ w'.cell? ⟨tb, 2, none⟩ = some v ∧ (∀ j, w'.frozen? ⟨tb, j, none⟩ = false) ∧
      Hid (Sbl base (w'.setCell ⟨tb, 2, none⟩ (.slice (some ⟨g, 0, none⟩) (xs.length + m) cap)) tb sc sd (.slice (some ⟨g, 0, none⟩) (xs.length + m) cap) (xs ++ ys)) ∧ Hid (Q w0 (w'.setCell ⟨tb, 2, none⟩ (.slice (some ⟨g, 0, none⟩) (xs.length + m) cap))) ∧
      Hid (Fr w (w'.setCell ⟨tb, 2, none⟩ (.slice (some ⟨g, 0, none⟩) (xs.length + m) cap)) (fun b => b ≠ tb ∧ v.ownBlock ≠ some b)) := by
  subst hm
  obtain ⟨i, i1, i2, i3, i4⟩ := wordInfo
  have hle : w0.heap.size ≤ base := Nat.le_trans hb (Nat.le_of_lt h.tb)
  obtain ⟨g, cap, w', hr, o1, o2, o3, o4⟩ := run_app_qg (P := Try.prog) w w0 q0 45 45 27 i _ 1 4 Try.underlying45 i1 i4 i2 i3 rfl (by decide) v xs.length (wdL xs) (own_up h.row (fun g e => Nat.le_trans hle (own_lt h.row e).1)) ad ys.length c (wdL ys) (by rw [wdL_len, Nat.mul_one]) hc (wdL_one ys) hy (by unfold maxLen; omega) (by omega)
  have hvt : v.ownBlock ≠ some tb := fun e => by have := (own_lt h.row e).1; have := h.tb; omega
  have fz : ∀ p, w'.frozen? p = w.frozen? p := fun p => (o2.2 p).trans (q0.2 p).symm
  have hg : base ≤ g := by
    rcases o4 with e | e
    · exact (own_lt h.row e).1
    · omega
  have hgt : g ≠ tb := by have := h.tb; omega
  have ct : w'.cell? ⟨tb, 2, none⟩ = some v := o3.cell h.c2 (fun e => hvt e.symm)
  have ct0 : w'.cell? ⟨tb, 0, none⟩ = some (.int .i64 sc) := o3.cell h.c0 (fun e => hvt e.symm)
  have ct1 : w'.cell? ⟨tb, 1, none⟩ = some (.int .i64 sd) := o3.cell h.c1 (fun e => hvt e.symm)
  have F2 : Fr w' (w'.setCell ⟨tb, 2, none⟩ (.slice (some ⟨g, 0, none⟩) (xs.length + ys.length) cap)) (fun b => b ≠ tb) := (Fr.refl w' _).set (fun h => h rfl) _
  refine ⟨g, cap, w', hr, ct, fun j => (fz _).trans (h.fz j), ⟨?_, ?_, World.cell?_setCell_same _ _ _ ct, fun j => by rw [World.frozen?_setCell]; exact (fz _).trans (h.fz j), ?_, h.tb⟩, o2.set hb _, ?_⟩
  · rw [World.cell?_setCell_other _ _ _ _ (by simp)]; exact ct0
  · rw [World.cell?_setCell_other _ _ _ _ (by simp)]; exact ct1
  · rw [wdL_app, List.length_append]
    refine F2.row (own_up o1 (fun g' e => by injection e with e; rw [← e]; exact hg)) (fun x hx => ?_)
    injection hx with hx
    have hx : g = x := hx
    rw [← hx]; exact hgt
  · exact (Fr.mk o3.os o3.tape o3.output o3.size (fun x hx hR => o3.block x hx (fun e => hR.2 e.symm)) fz : Fr w w' (fun b => b ≠ tb ∧ v.ownBlock ≠ some b)).trans (F2.mono (fun x hx _ => hx.1))
theorem Sbl.start {base : Nat} {w : World} {tb : Nat} {c d : Int} (c0 : w.cell? ⟨tb, 0, none⟩ = some (.int .i64 c)) (c1 : w.cell? ⟨tb, 1, none⟩ = some (.int .i64 d)) (c2 : w.cell? ⟨tb, 2, none⟩ = some (.slice none 0 0)) (fz : ∀ j, w.frozen? ⟨tb, j, none⟩ = false) (ht : tb < base) : Sbl base w tb c d (.slice none 0 0) [] :=
  ⟨c0, c1, c2, fz, World.ownsRow_nil _ _ _ _, ht⟩
/-- At the end it is a plane of the call's own. -/
theorem Sbl.mine {base : Nat} {w : World} {tb : Nat} {c d : Int} {v : Value} {xs : List Nat} {n : Nat} (h : Sbl base w tb c d v xs) (hn : xs.length = n) (h1 : 1 ≤ n) (hlt : ∀ i, xs.getD i 0 < 4294967296) : ∃ y : PL, v = y.v ∧ y.S = xs ∧ Mine base w n y := by
  obtain ⟨h2, ⟨h3, h4⟩ | ⟨g, cap, cur, h3, hb, hg, hc, hm, hs, ht⟩⟩ := h.row
  · omega
  · refine ⟨⟨g, 0, cap, xs⟩, h3, rfl, rfl, hb, ?_, ⟨hn, hc, fun i hi => ?_, hlt⟩, fun j => frozen_of_row _ _ _ _ _ hg, fun j hj => ?_, hm⟩
    · exact (Array.getElem?_eq_some_iff.1 hg).1
    · rw [cell_of_row _ _ _ _ _ _ hg, ← wdL_get hi, ← ht, List.getElem?_take_of_lt (by have : i < xs.length := hi; omega), Nat.zero_add, Array.getElem?_toList]
    · rw [cell_of_row _ _ _ _ _ _ hg]
      have hj : j < cap := hj
      exact ⟨_, Array.getElem?_eq_getElem (by omega)⟩
theorem tab_succ (c i : Nat) (G : Nat → Nat → Nat) : tab c (i + 1) G = tab c i G ++ (List.range c).map (fun j => G j i) := by
  unfold tab
  rw [Nat.mul_succ, List.range_add, List.map_append, List.map_map]
  congr 1
  apply List.map_congr_left
  intro j hj
  have := List.mem_range.1 hj
  show G ((c * i + j) % c) ((c * i + j) / c) = G j i
  rw [Nat.mul_add_mod, Nat.mod_eq_of_lt this, Nat.mul_add_div (by omega), Nat.div_eq_of_lt this, Nat.add_zero]
end Go.Proofs.Ytdempklpmggdoaa
/- What the statements' helper Crop answers. -/
namespace Go.Proofs.Ytdempklpmggdoaa
open Go.RowKit
set_option linter.unusedVariables false
set_option linter.unusedSimpArgs false

theorem row_get {S : List Nat} {r c j : Nat} (h : j < c) : ((List.range c).map (fun t => S.getD (r + t) 0)).getD j 0 = S.getD (r + j) 0 := by
  rw [List.getD_eq_getElem?_getD, List.getElem?_map, List.getElem?_eq_getElem (by rw [List.length_range]; exact h)]
  simp
theorem run_slice_mid {ρ : Operand → Value} {x : World} {d : Option Tmp} {ty : TypeId} {ps : String} {af : Array Edge} {g : Option (Nat × Bool)} {j k l gb ob nn cc kk ll : Nat} (h : ρ (.tmp j) = .slice (some ⟨gb, ob, none⟩) nn cc) (h' : ρ (.tmp k) = .int .i64 (kk : Nat)) (h'' : ρ (.tmp l) = .int .i64 (ll : Nat)) (l0 : kk < ll) (l1 : ll ≤ cc) : (execOp ρ { dst := d, op := .slice 45 (.tmp j) (some (.tmp k)) (some (.tmp l)) none, type := ty, pos := ps, after := af, guard := g }).run Try.prog x = .ok (.value (.slice (some ⟨gb, ob + kk, none⟩) (ll - kk) (cc - kk))) x := by
  simp [execOp, h, h', h'', go_sem, Nat.le_of_lt l0, l1]
  intro h4
  omega
set_option maxHeartbeats 4000000 in
set_option maxRecDepth 100000 in
theorem hcrop_good {x0 y0 c d : Nat} (XX YY : Int) (hXX : XX = (x0 + c : Nat)) (hYY : YY = (y0 + d : Nat)) (w : World) (a b : Nat) (x : PL) (hr : Rct a b x0 y0 c d) (hs : Size a b) (hg : Gd w (a * b) x) :
    Calls Try.prog 45 #[plV a b x, .agg #[.int .i64 (x0 : Int), .int .i64 (y0 : Int), .int .i64 XX, .int .i64 YY]] w fun e w' => ∃ u, e = .returned u ∧ ∃ y : PL, u = plV c d y ∧ y.S = cutL a x0 y0 c d x.S ∧ Hid (Mine w.heap.size w' (c * d) y) ∧ Q w w' := by
  have HG : Hid (Gd w (a * b) x) := hg
  have HSZ : Hid (Size c d) := hr.size hs
  have HS : Hid (Size a b) := hs
  have HR : Hid (Rct a b x0 y0 c d) := hr
  have hxm : x0 + c ≤ 1024 := Nat.le_trans hr.c2 hs.a2
  have hym : y0 + d ≤ 1024 := Nat.le_trans hr.d2 hs.b2
  have hc1 := hr.c1
  have hd1 := hr.d1
  have hdx : XX - (x0 : Int) = (c : Int) := by omega
  have hdy : YY - (y0 : Int) = (d : Int) := by omega
  have hYd : YY = (y0 : Int) + (d : Int) := by omega
  have hXc : XX = (x0 : Int) + (c : Int) := by omega
  obtain ⟨N, hN⟩ : ∃ N, a * b = N := ⟨_, rfl⟩
  have hl : x.S.length = N := by rw [hg.len]; exact hN
  have HN : Hid (a * b = N ∧ x.S.length = N) := ⟨hN, hl⟩
  have hcap : N ≤ x.cap := by rw [← hl]; exact hg.room
  have hNm : N ≤ 65536 := by rw [← hN]; exact hs.ab
  obtain ⟨X0, hX0⟩ : ∃ X : Int, (x0 : Int) = X := ⟨_, rfl⟩
  obtain ⟨Y0, hY0⟩ : ∃ X : Int, (y0 : Int) = X := ⟨_, rfl⟩
  have HXY : Hid ((x0 : Int) = X0 ∧ (y0 : Int) = Y0 ∧ YY = (y0 : Int) + (d : Int) ∧ XX = (x0 : Int) + (c : Int)) := ⟨hX0, hY0, hYd, hXc⟩
  unfold plV PL.v
  rw [hl, hX0, hY0]
  rw [hX0] at hdx
  rw [hY0] at hdy
  have hX1 : 0 ≤ X0 := by omega
  have hX2 : X0 ≤ 1024 := by omega
  have hX3 : 0 ≤ XX := by omega
  have hX4 : XX ≤ 1024 := by omega
  have hY1 : 0 ≤ Y0 := by omega
  have hY2 : Y0 ≤ 1024 := by omega
  have hY3 : 0 ≤ YY := by omega
  have hY4 : YY ≤ 1024 := by omega
  clear hg hr hs hXX hYY hN hl hX0 hY0 hYd hXc
  have qa : Hid (∀ a b c d e f, Q w (((w.alloc (.cells a b)).alloc (.cells c d)).alloc (.cells e f))) := fun a b c d e f => (((Q.refl w).cells _ _).cells _ _).cells _ _
  go_enter Try.func45, Try.ntmps45
  go_wp2_with fail
  have HQ1 : Hid (Q w ((((w.alloc (Obj.cells #[Value.int IntKind.i64 ↑a, Value.int IntKind.i64 ↑b, Value.slice (some { block := x.g, off := x.o }) N x.cap] 47)).alloc (Obj.cells #[Value.int IntKind.i64 X0, Value.int IntKind.i64 Y0, Value.int IntKind.i64 XX, Value.int IntKind.i64 YY] 26)).alloc (Obj.cells #[Value.int IntKind.i64 0, Value.int IntKind.i64 0, Value.slice none 0 0] 47)).alloc (Obj.cells #[Value.int IntKind.i64 ↑c, Value.int IntKind.i64 ↑d, Value.slice none 0 0] 47))) := (qa.out _ _ _ _ _ _).cells _ _
  have hz1 : ((((w.alloc (Obj.cells #[Value.int IntKind.i64 ↑a, Value.int IntKind.i64 ↑b, Value.slice (some { block := x.g, off := x.o }) N x.cap] 47)).alloc (Obj.cells #[Value.int IntKind.i64 X0, Value.int IntKind.i64 Y0, Value.int IntKind.i64 XX, Value.int IntKind.i64 YY] 26)).alloc (Obj.cells #[Value.int IntKind.i64 0, Value.int IntKind.i64 0, Value.slice none 0 0] 47)).alloc (Obj.cells #[Value.int IntKind.i64 ↑c, Value.int IntKind.i64 ↑d, Value.slice none 0 0] 47)).heap.size = w.heap.size + 4 := by simp
  have p0 : ((((w.alloc (Obj.cells #[Value.int IntKind.i64 ↑a, Value.int IntKind.i64 ↑b, Value.slice (some { block := x.g, off := x.o }) N x.cap] 47)).alloc (Obj.cells #[Value.int IntKind.i64 X0, Value.int IntKind.i64 Y0, Value.int IntKind.i64 XX, Value.int IntKind.i64 YY] 26)).alloc (Obj.cells #[Value.int IntKind.i64 0, Value.int IntKind.i64 0, Value.slice none 0 0] 47)).alloc (Obj.cells #[Value.int IntKind.i64 ↑c, Value.int IntKind.i64 ↑d, Value.slice none 0 0] 47)).cell? ⟨w.heap.size, 0, none⟩ = some (.int .i64 (a : Int)) := by simp [go_sem]
  have p2 : ((((w.alloc (Obj.cells #[Value.int IntKind.i64 ↑a, Value.int IntKind.i64 ↑b, Value.slice (some { block := x.g, off := x.o }) N x.cap] 47)).alloc (Obj.cells #[Value.int IntKind.i64 X0, Value.int IntKind.i64 Y0, Value.int IntKind.i64 XX, Value.int IntKind.i64 YY] 26)).alloc (Obj.cells #[Value.int IntKind.i64 0, Value.int IntKind.i64 0, Value.slice none 0 0] 47)).alloc (Obj.cells #[Value.int IntKind.i64 ↑c, Value.int IntKind.i64 ↑d, Value.slice none 0 0] 47)).cell? ⟨w.heap.size, 2, none⟩ = some (.slice (some ⟨x.g, x.o, none⟩) N x.cap) := by simp [go_sem]
  have r0 : ((((w.alloc (Obj.cells #[Value.int IntKind.i64 ↑a, Value.int IntKind.i64 ↑b, Value.slice (some { block := x.g, off := x.o }) N x.cap] 47)).alloc (Obj.cells #[Value.int IntKind.i64 X0, Value.int IntKind.i64 Y0, Value.int IntKind.i64 XX, Value.int IntKind.i64 YY] 26)).alloc (Obj.cells #[Value.int IntKind.i64 0, Value.int IntKind.i64 0, Value.slice none 0 0] 47)).alloc (Obj.cells #[Value.int IntKind.i64 ↑c, Value.int IntKind.i64 ↑d, Value.slice none 0 0] 47)).cell? ⟨w.heap.size + 1, 0, none⟩ = some (.int .i64 X0) := by simp [go_sem]
  have r2 : ((((w.alloc (Obj.cells #[Value.int IntKind.i64 ↑a, Value.int IntKind.i64 ↑b, Value.slice (some { block := x.g, off := x.o }) N x.cap] 47)).alloc (Obj.cells #[Value.int IntKind.i64 X0, Value.int IntKind.i64 Y0, Value.int IntKind.i64 XX, Value.int IntKind.i64 YY] 26)).alloc (Obj.cells #[Value.int IntKind.i64 0, Value.int IntKind.i64 0, Value.slice none 0 0] 47)).alloc (Obj.cells #[Value.int IntKind.i64 ↑c, Value.int IntKind.i64 ↑d, Value.slice none 0 0] 47)).cell? ⟨w.heap.size + 1, 2, none⟩ = some (.int .i64 XX) := by simp [go_sem]
  have r3 : ((((w.alloc (Obj.cells #[Value.int IntKind.i64 ↑a, Value.int IntKind.i64 ↑b, Value.slice (some { block := x.g, off := x.o }) N x.cap] 47)).alloc (Obj.cells #[Value.int IntKind.i64 X0, Value.int IntKind.i64 Y0, Value.int IntKind.i64 XX, Value.int IntKind.i64 YY] 26)).alloc (Obj.cells #[Value.int IntKind.i64 0, Value.int IntKind.i64 0, Value.slice none 0 0] 47)).alloc (Obj.cells #[Value.int IntKind.i64 ↑c, Value.int IntKind.i64 ↑d, Value.slice none 0 0] 47)).cell? ⟨w.heap.size + 1, 3, none⟩ = some (.int .i64 YY) := by simp [go_sem]
  have z0 : ((((w.alloc (Obj.cells #[Value.int IntKind.i64 ↑a, Value.int IntKind.i64 ↑b, Value.slice (some { block := x.g, off := x.o }) N x.cap] 47)).alloc (Obj.cells #[Value.int IntKind.i64 X0, Value.int IntKind.i64 Y0, Value.int IntKind.i64 XX, Value.int IntKind.i64 YY] 26)).alloc (Obj.cells #[Value.int IntKind.i64 0, Value.int IntKind.i64 0, Value.slice none 0 0] 47)).alloc (Obj.cells #[Value.int IntKind.i64 ↑c, Value.int IntKind.i64 ↑d, Value.slice none 0 0] 47)).cell? ⟨w.heap.size + 1 + 1, 0, none⟩ = some (.int .i64 0) := by simp [go_sem]
  have z1 : ((((w.alloc (Obj.cells #[Value.int IntKind.i64 ↑a, Value.int IntKind.i64 ↑b, Value.slice (some { block := x.g, off := x.o }) N x.cap] 47)).alloc (Obj.cells #[Value.int IntKind.i64 X0, Value.int IntKind.i64 Y0, Value.int IntKind.i64 XX, Value.int IntKind.i64 YY] 26)).alloc (Obj.cells #[Value.int IntKind.i64 0, Value.int IntKind.i64 0, Value.slice none 0 0] 47)).alloc (Obj.cells #[Value.int IntKind.i64 ↑c, Value.int IntKind.i64 ↑d, Value.slice none 0 0] 47)).cell? ⟨w.heap.size + 1 + 1, 1, none⟩ = some (.int .i64 0) := by simp [go_sem]
  have z2 : ((((w.alloc (Obj.cells #[Value.int IntKind.i64 ↑a, Value.int IntKind.i64 ↑b, Value.slice (some { block := x.g, off := x.o }) N x.cap] 47)).alloc (Obj.cells #[Value.int IntKind.i64 X0, Value.int IntKind.i64 Y0, Value.int IntKind.i64 XX, Value.int IntKind.i64 YY] 26)).alloc (Obj.cells #[Value.int IntKind.i64 0, Value.int IntKind.i64 0, Value.slice none 0 0] 47)).alloc (Obj.cells #[Value.int IntKind.i64 ↑c, Value.int IntKind.i64 ↑d, Value.slice none 0 0] 47)).cell? ⟨w.heap.size + 1 + 1, 2, none⟩ = some (.slice none 0 0) := by simp [go_sem]
  have zf : ∀ j, ((((w.alloc (Obj.cells #[Value.int IntKind.i64 ↑a, Value.int IntKind.i64 ↑b, Value.slice (some { block := x.g, off := x.o }) N x.cap] 47)).alloc (Obj.cells #[Value.int IntKind.i64 X0, Value.int IntKind.i64 Y0, Value.int IntKind.i64 XX, Value.int IntKind.i64 YY] 26)).alloc (Obj.cells #[Value.int IntKind.i64 0, Value.int IntKind.i64 0, Value.slice none 0 0] 47)).alloc (Obj.cells #[Value.int IntKind.i64 ↑c, Value.int IntKind.i64 ↑d, Value.slice none 0 0] 47)).frozen? ⟨w.heap.size + 1 + 1, j, none⟩ = false := fun j => by simp [go_sem]
  have HB : Hid (Sbl (w.heap.size + 4) ((((w.alloc (Obj.cells #[Value.int IntKind.i64 ↑a, Value.int IntKind.i64 ↑b, Value.slice (some { block := x.g, off := x.o }) N x.cap] 47)).alloc (Obj.cells #[Value.int IntKind.i64 X0, Value.int IntKind.i64 Y0, Value.int IntKind.i64 XX, Value.int IntKind.i64 YY] 26)).alloc (Obj.cells #[Value.int IntKind.i64 0, Value.int IntKind.i64 0, Value.slice none 0 0] 47)).alloc (Obj.cells #[Value.int IntKind.i64 ↑c, Value.int IntKind.i64 ↑d, Value.slice none 0 0] 47)) (w.heap.size + 1 + 1 + 1) c d (.slice none 0 0) []) := Sbl.start (by simp [go_sem]) (by simp [go_sem]) (by simp [go_sem]) (fun j => by simp [go_sem]) (by omega)
  generalize ((((w.alloc (Obj.cells #[Value.int IntKind.i64 ↑a, Value.int IntKind.i64 ↑b, Value.slice (some { block := x.g, off := x.o }) N x.cap] 47)).alloc (Obj.cells #[Value.int IntKind.i64 X0, Value.int IntKind.i64 Y0, Value.int IntKind.i64 XX, Value.int IntKind.i64 YY] 26)).alloc (Obj.cells #[Value.int IntKind.i64 0, Value.int IntKind.i64 0, Value.slice none 0 0] 47)).alloc (Obj.cells #[Value.int IntKind.i64 ↑c, Value.int IntKind.i64 ↑d, Value.slice none 0 0] 47)) = w1 at *
  clear qa
  go_loopg [6] d (fun m s6 wx => ∃ (i : Nat) (v : Value) (xs : List Nat), s6 = .int .i64 ((y0 + i : Nat) : Int) ∧ i + m = d ∧ Hid (xs = tab c i (fun p q => smp x.S a (x0 + p) (y0 + q))) ∧ Hid (Sbl (w.heap.size + 4) wx (w.heap.size + 1 + 1 + 1) c d v xs) ∧ Hid (Q w wx) ∧ Hid (Fr w1 wx (fun b => b ≠ w.heap.size + 1 + 1 + 1 ∧ b < w.heap.size + 4)))
  case atStart => exact ⟨0, _, [], by rw [← HXY.out.2.1, Nat.add_zero], by omega, by show [] = tab c 0 _; unfold tab; rw [Nat.mul_zero]; rfl, HB, HQ1, Fr.refl _ _⟩
  case round =>
    obtain ⟨i, v, xs, rfl, him, HX, HB, HQ, HF⟩ := hrel
    have hr3 := HF.out.cell r3 ⟨by show w.heap.size + 1 ≠ _; omega, by show w.heap.size + 1 < _; omega⟩
    have hxl : xs.length = c * i := by have := HX.out; rw [this]; exact tab_length _ _ _
    have HXL : Hid (xs.length = c * i) := hxl
    obtain ⟨Z, hZ⟩ : ∃ Z : Int, ((y0 + i : Nat) : Int) = Z := ⟨_, rfl⟩
    have HZ : Hid (((y0 + i : Nat) : Int) = Z) := hZ
    have hZ1 : 0 ≤ Z := by omega
    have hZ2 : Z ≤ 1024 := by omega
    rw [hZ]
    by_cases hi : i < d
    · have hlt : Z < YY := by have := HXY.out.2.2.1; omega
      obtain ⟨r, hr⟩ : ∃ r, (y0 + i) * a = r := ⟨_, rfl⟩
      have hza : Z * (a : Int) = (r : Int) := by rw [← hZ, ← Int.natCast_mul, hr]
      have hrm : r + x0 + c ≤ N := by
        have h1 := HR.out.c2
        have h2 := HR.out.d2
        have h3 : (y0 + i) * a + a ≤ b * a := by rw [← Nat.succ_mul]; exact Nat.mul_le_mul_right a (by omega)
        rw [Nat.mul_comm b a, HN.out.1] at h3
        omega
      obtain ⟨P, hP⟩ : ∃ P, r + x0 = P := ⟨_, rfl⟩
      obtain ⟨H, hH⟩ : ∃ H, P + c = H := ⟨_, rfl⟩
      have hP1 : (r : Int) + X0 = (P : Int) := by have := HXY.out.1; omega
      have hH1 : (r : Int) + XX = (H : Int) := by have := HXY.out.2.2.2; omega
      have HPH : Hid (r + x0 = P ∧ P + c = H ∧ (y0 + i) * a = r) := ⟨hP, hH, hr⟩
      have hPH : P ≤ H := by omega
      have hHc : H ≤ x.cap := by omega
      have hHN : H ≤ N := by omega
      have hHm : H ≤ 65536 := by omega
      have hr0 : (0 : Int) ≤ (r : Int) := by omega
      have hr1 : (r : Int) ≤ 65536 := by omega
      have hp0 := HF.out.cell p0 ⟨by show w.heap.size ≠ _; omega, by show w.heap.size < _; omega⟩
      have hp2 := HF.out.cell p2 ⟨by show w.heap.size ≠ _; omega, by show w.heap.size < _; omega⟩
      have hr0' := HF.out.cell r0 ⟨by show w.heap.size + 1 ≠ _; omega, by show w.heap.size + 1 < _; omega⟩
      have hr2 := HF.out.cell r2 ⟨by show w.heap.size + 1 ≠ _; omega, by show w.heap.size + 1 < _; omega⟩
      have t1 := HB.out.c2
      have f1 := qw_cell t1
      have f2 := qw_cell hp0
      have f3 := qw_cell hp2
      have f4 := qw_cell hr0'
      have f5 := qw_cell hr2
      have hw1 : IntKind.i64.wrap (r : Int) = (r : Int) := by rw [IntKind.wrap_i64]; omega
      have hw2 : IntKind.i64.wrap (P : Int) = (P : Int) := by rw [IntKind.wrap_i64]; omega
      have hw3 : IntKind.i64.wrap (H : Int) = (H : Int) := by rw [IntKind.wrap_i64]; omega
      have n0 := qw_some wr
      clear hP hH hr hrm hxl hZ
      go_wp2_with fail
      refine wp_region_mk [0, 1, 2, 3, 4, 5, 6, 7, 8, 9, 10, 11, 12, 13, 14, 15, 16, 17] [[18, 19, 20, 21]] 4 _ (by kernel_rfl) (by kernel_rfl) rfl (by kernel_rfl) ?_
      simp only [List.filterMap_cons, List.filterMap_nil, List.getElem?_cons_zero, List.getElem?_cons_succ]
      repeat (first | go_big_quiet_step (fail) | quiet_step (fail))
      refine wpQuiet_nil ?_
      intro x4 hx4
      clear f1 f2 f3 f4 f5 n0
      refine tree_run 18 rfl rfl (v := .slice (some ⟨x.g, x.o + P, none⟩) (H - P) (x.cap - P)) (x' := x4) (run_slice_mid (nn := N) (by simp [Act.eval]) (by simp [Act.eval]) (by simp [Act.eval]) (by have := HPH.out; omega) hHc) hx4 ?_
      have hrow : ((List.range c).map fun t => x.S.getD (P + t) 0).length = c := by rw [List.length_map, List.length_range]
      have hcm : c * i + c ≤ 65536 := by
        have h1 : c * (i + 1) ≤ c * d := Nat.mul_le_mul_left c (by omega)
        have h2 := HSZ.out.ab
        rw [Nat.mul_succ] at h1
        omega
      have hs1 := HF.out.size
      have hs4 := hx4.1.size
      obtain ⟨g7, cap7, w7, hr7, ct7, cf7, HB7, HQ7, HF7⟩ := (HB.out.next hx4).app (HQ.out.trans hx4) (by omega) (by omega) (ys := (List.range c).map fun t => x.S.getD (P + t) 0) (by rw [hrow]; omega) (by rw [hrow, HXL.out]; exact hcm) (m := H - P) (c := x.cap - P) (ad := ⟨x.g, x.o + P, none⟩) (by rw [hrow]; have := HPH.out; omega) (fun j u hu => by
        have hj : j < c := by have := (List.getElem?_eq_some_iff.1 hu).1; rw [wdL_len, hrow] at this; exact this
        rw [wdL_get (by rw [hrow]; exact hj), row_get hj] at hu
        have hin : P + j < x.S.length := by have h1 := HPH.out; have h2 := HN.out.2; omega
        have := (HG.out.us.next (HQ.out.trans hx4)) (P + j) hin
        rw [addrAdd, Nat.add_assoc, this]
        exact hu)
      refine tree_runF 19 rfl rfl rfl (x' := w7) (run_appop rfl (v := v) (v' := .slice (some ⟨x.g, x.o + P, none⟩) (H - P) (x.cap - P)) (by simp [Act.eval, Act.put]) (by simp [Act.eval, Act.put]) hr7) ?_
      refine tree_runF 20 rfl rfl rfl (v := .pointer (some ⟨w.heap.size + 1 + 1 + 1, 2, none⟩)) (x' := w7) (by simp [execOp, go_sem]) ?_
      refine tree_skipF 21 rfl rfl rfl (x' := w7.setCell ⟨w.heap.size + 1 + 1 + 1, 2, none⟩ (.slice (some ⟨g7, 0, none⟩) (xs.length + (H - P)) cap7)) (by simp [execOp, go_sem, ct7, cf7]) ?_
      refine tree_nil ?_
      have HXN : Hid (xs ++ ((List.range c).map fun t => x.S.getD (P + t) 0) = tab c (i + 1) (fun p q => smp x.S a (x0 + p) (y0 + q))) := by
        show _ = _
        rw [tab_succ, ← HX.out]
        congr 1
        apply List.map_congr_left
        intro j hj
        unfold smp
        have h1 := HPH.out
        rw [h1.2.2]
        congr 1
        omega
      have HF8 : Hid (Fr w1 (w7.setCell ⟨w.heap.size + 1 + 1 + 1, 2, none⟩ (.slice (some ⟨g7, 0, none⟩) (xs.length + (H - P)) cap7)) (fun b => b ≠ w.heap.size + 1 + 1 + 1 ∧ b < w.heap.size + 4)) := (HF.out.trans (hx4.fr _)).trans (HF7.out.mono (fun z hz' _ => ⟨hz'.1, fun e => by have := (own_lt HB.out.row e).1; omega⟩))
      generalize w7.setCell ⟨w.heap.size + 1 + 1 + 1, 2, none⟩ (.slice (some ⟨g7, 0, none⟩) (xs.length + (H - P)) cap7) = w8 at *
      obtain ⟨Z', hZ'⟩ : ∃ Z' : Int, Z + 1 = Z' := ⟨_, rfl⟩
      have HZ' : Hid (((y0 + (i + 1) : Nat) : Int) = Z') := by have := HZ.out; show _ = _; omega
      have hZ1' : 0 ≤ Z' := by omega
      have hZ2' : Z' ≤ 1025 := by omega
      clear hr7 ct7 cf7 hx4 t1 hrow hcm hs1 hs4 hp0 hp2 hr0' hr2 hr3
      go_wp2_with fail
      go_roundg (d - (i + 1))
      case measure => go_light; omega
      case rel => go_light; exact ⟨i + 1, _, _, by rw [HZ'.out], by omega, HXN, HB7, HQ7, HF8⟩
    · have hie : i = d := by omega
      have hnl : ¬ (Z < YY) := by have := HXY.out.2.2.1; have := HZ.out; omega
      have t0 := HB.out.c0
      have t1 := HB.out.c1
      have t2 := HB.out.c2
      have z0r := HF.out.cell z0 ⟨by show w.heap.size + 1 + 1 ≠ _; omega, by show w.heap.size + 1 + 1 < _; omega⟩
      have z1r := HF.out.cell z1 ⟨by show w.heap.size + 1 + 1 ≠ _; omega, by show w.heap.size + 1 + 1 < _; omega⟩
      have z2r := HF.out.cell z2 ⟨by show w.heap.size + 1 + 1 ≠ _; omega, by show w.heap.size + 1 + 1 < _; omega⟩
      have zfr : ∀ j, wr.frozen? ⟨w.heap.size + 1 + 1, j, none⟩ = false := fun j => (HF.out.frz _).trans (zf j)
      have hxc : xs = cutL a x0 y0 c d x.S := by have := HX.out; rw [hie] at this; exact this
      obtain ⟨y, hy1, hy2, hy3⟩ := HB.out.mine (n := c * d) (by rw [hxc]; exact cutL_len _ _ _ _ _ _) HSZ.out.pos (by rw [hxc]; exact cutL_lt HG.out.lt)
      have HY : Hid (y.S = cutL a x0 y0 c d x.S ∧ Mine (w.heap.size + 4) wr (c * d) y) := ⟨hy2.trans hxc, hy3⟩
      unfold PL.v at hy1
      clear hy2 hy3 hxc
      subst hy1
      go_wp2_with fail
      have F9 : Fr wr (((wr.setCell ⟨w.heap.size + 1 + 1, 0, none⟩ (.int .i64 (c : Int))).setCell ⟨w.heap.size + 1 + 1, 1, none⟩ (.int .i64 (d : Int))).setCell ⟨w.heap.size + 1 + 1, 2, none⟩ (.slice (some ⟨y.g, y.o, none⟩) y.S.length y.cap)) (fun b => b ≠ w.heap.size + 1 + 1) := (((Fr.refl wr _).set (fun h => h rfl) _).set (fun h => h rfl) _).set (fun h => h rfl) _
      refine bodyPost_ret (v := .agg #[.int .i64 (c : Int), .int .i64 (d : Int), .slice (some ⟨y.g, y.o, none⟩) y.S.length y.cap]) (by simp [results, Try.results45, go_sem, z0r, z1r, z2r]) rfl ⟨_, rfl, y, rfl, HY.out.1, (HY.out.2.keep F9 (by have := HY.out.2.low; show y.g ≠ _; omega)).mono (by omega), ((HQ.out.set (by show _ ≤ w.heap.size + 1 + 1; omega) _).set (by show _ ≤ w.heap.size + 1 + 1; omega) _).set (by show _ ≤ w.heap.size + 1 + 1; omega) _⟩
end Go.Proofs.Ytdempklpmggdoaa
