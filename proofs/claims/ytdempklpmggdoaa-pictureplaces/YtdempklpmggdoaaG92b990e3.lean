/- PicturePlaces: the walk (under way). -/
import Derived.Test.YtdempklpmggdoaaGedda49cc
namespace Go.Proofs.Ytdempklpmggdoaa
open Go.RowKit
set_option linter.unusedVariables false
set_option linter.unusedSimpArgs false

set_option maxHeartbeats 4000000 in
set_option maxRecDepth 100000 in
theorem places_walk (w : World) (sp sp' : Int) (v v' : Value) (D D' : List PD) (x0 y0 x1 y1 tt kk : Int) (A B : Nat) (hA : A < 4294967296) (hB : B < 4294967296) (m : Nat → Nat) (hm : ∀ i, m i < 4294967296) (h : DSl w v D) (hl : ∀ x ∈ D, x.S.length ≤ 9223372036854775807) (hlt : ∀ x ∈ D, ∀ i, x.S.getD i 0 < 4294967296) (hD : D.length ≤ 9223372036854775807) (h' : DSl w v' D') (hl' : ∀ x ∈ D', x.S.length ≤ 9223372036854775807) (hlt' : ∀ x ∈ D', ∀ i, x.S.getD i 0 < 4294967296) (hD' : D'.length ≤ 9223372036854775807) :
    Calls Try.prog 3 #[.agg #[.int .i64 sp, v], .agg #[.int .i64 sp', v'], .agg #[.int .i64 x0, .int .i64 y0, .int .i64 x1, .int .i64 y1], .int .i64 tt, .int .i64 kk, .int .u32 (A : Int), .int .u32 (B : Int), .agg #[.int .u32 ((m 0 : Nat) : Int), .int .u32 ((m 1 : Nat) : Int), .int .u32 ((m 2 : Nat) : Int), .int .u32 ((m 3 : Nat) : Int), .int .u32 ((m 4 : Nat) : Int), .int .u32 ((m 5 : Nat) : Int), .int .u32 ((m 6 : Nat) : Int), .int .u32 ((m 7 : Nat) : Int), .int .u32 ((m 8 : Nat) : Int)]] w fun e w' => e = .returned (.bool true) ∧ Q w w' := by
  obtain ⟨ad, cap, hv⟩ := h.form
  subst hv
  obtain ⟨ad', cap', hv⟩ := h'.form
  subst hv
  have HD : Hid (DSl w (.slice ad D.length cap) D) := h
  have HL : Hid (∀ x ∈ D, x.S.length ≤ 9223372036854775807) := hl
  have HT : Hid (∀ x ∈ D, ∀ i, x.S.getD i 0 < 4294967296) := hlt
  have HE : Hid (DSl w (.slice ad' D'.length cap') D') := h'
  have HL' : Hid (∀ x ∈ D', x.S.length ≤ 9223372036854775807) := hl'
  have HT' : Hid (∀ x ∈ D', ∀ i, x.S.getD i 0 < 4294967296) := hlt'
  obtain ⟨n, hn⟩ : ∃ n, D.length = n := ⟨_, rfl⟩
  have HDL : Hid (D.length = n ∧ D.length ≤ 9223372036854775807) := ⟨hn, hD⟩
  obtain ⟨n', hn'⟩ : ∃ n, D'.length = n := ⟨_, rfl⟩
  have HEL : Hid (D'.length = n' ∧ D'.length ≤ 9223372036854775807) := ⟨hn', hD'⟩
  rw [hn] at HD hD ⊢
  rw [hn'] at HE hD' ⊢
  have qa : Hid (∀ c t c' t' c2 t2 c3 t3, Q w ((((w.alloc (.cells c t)).alloc (.cells c' t')).alloc (.cells c2 t2)).alloc (.cells c3 t3))) := fun c t c' t' c2 t2 c3 t3 => ((((Q.refl w).cells c t).cells c' t').cells c2 t2).cells c3 t3
  have HM : Hid (∀ i, m i < 4294967296) := hm
  clear h hl hlt hn h' hl' hlt' hn'
  have l1 := num8_any
  go_enter Try.func3, Try.ntmps3
  go_wp2_with fail
  refine (known8_any _).mono ?_
  rintro e w1 ⟨rfl, q1⟩
  have HQ1 : Hid (Q w w1) := (qa.out _ _ _ _ _ _ _ _).trans q1
  have p0 : w1.cell? ⟨w.heap.size, 0, none⟩ = some (.int .i64 sp) := q1.cell (by simp [go_sem])
  have p1 : w1.cell? ⟨w.heap.size, 1, none⟩ = some (.slice ad n cap) := q1.cell (by simp [go_sem])
  have r0 : w1.cell? ⟨w.heap.size + 1, 0, none⟩ = some (.int .i64 sp') := q1.cell (by simp [go_sem])
  have r1 : w1.cell? ⟨w.heap.size + 1, 1, none⟩ = some (.slice ad' n' cap') := q1.cell (by simp [go_sem])
  have k0 : w1.cell? ⟨w.heap.size + 1 + 1, 0, none⟩ = some (.int .i64 x0) := q1.cell (by simp [go_sem])
  have k1 : w1.cell? ⟨w.heap.size + 1 + 1, 1, none⟩ = some (.int .i64 y0) := q1.cell (by simp [go_sem])
  have k2 : w1.cell? ⟨w.heap.size + 1 + 1, 2, none⟩ = some (.int .i64 x1) := q1.cell (by simp [go_sem])
  have k3 : w1.cell? ⟨w.heap.size + 1 + 1, 3, none⟩ = some (.int .i64 y1) := q1.cell (by simp [go_sem])
  have m0 : w1.cell? ⟨w.heap.size + 1 + 1 + 1, 0, none⟩ = some (.int .u32 ((m 0 : Nat) : Int)) := q1.cell (by simp [go_sem])
  have m1 : w1.cell? ⟨w.heap.size + 1 + 1 + 1, 1, none⟩ = some (.int .u32 ((m 1 : Nat) : Int)) := q1.cell (by simp [go_sem])
  have m2 : w1.cell? ⟨w.heap.size + 1 + 1 + 1, 2, none⟩ = some (.int .u32 ((m 2 : Nat) : Int)) := q1.cell (by simp [go_sem])
  have m3 : w1.cell? ⟨w.heap.size + 1 + 1 + 1, 3, none⟩ = some (.int .u32 ((m 3 : Nat) : Int)) := q1.cell (by simp [go_sem])
  have m4 : w1.cell? ⟨w.heap.size + 1 + 1 + 1, 4, none⟩ = some (.int .u32 ((m 4 : Nat) : Int)) := q1.cell (by simp [go_sem])
  have m5 : w1.cell? ⟨w.heap.size + 1 + 1 + 1, 5, none⟩ = some (.int .u32 ((m 5 : Nat) : Int)) := q1.cell (by simp [go_sem])
  have m6 : w1.cell? ⟨w.heap.size + 1 + 1 + 1, 6, none⟩ = some (.int .u32 ((m 6 : Nat) : Int)) := q1.cell (by simp [go_sem])
  have m7 : w1.cell? ⟨w.heap.size + 1 + 1 + 1, 7, none⟩ = some (.int .u32 ((m 7 : Nat) : Int)) := q1.cell (by simp [go_sem])
  have m8 : w1.cell? ⟨w.heap.size + 1 + 1 + 1, 8, none⟩ = some (.int .u32 ((m 8 : Nat) : Int)) := q1.cell (by simp [go_sem])
  clear q1 qa
  go_wp2_with fail
  refine (pcheck_any w1 sp _ D (HD.out.next HQ1.out) HL.out HDL.out.2).mono ?_
  rintro e w2 ⟨rfl, q2⟩
  have HQ2 : Hid (Q w w2) := HQ1.out.trans q2
  replace p0 := q2.cell p0
  replace p1 := q2.cell p1
  replace r0 := q2.cell r0
  replace r1 := q2.cell r1
  replace k0 := q2.cell k0
  replace k1 := q2.cell k1
  replace k2 := q2.cell k2
  replace k3 := q2.cell k3
  replace m0 := q2.cell m0
  replace m1 := q2.cell m1
  replace m2 := q2.cell m2
  replace m3 := q2.cell m3
  replace m4 := q2.cell m4
  replace m5 := q2.cell m5
  replace m6 := q2.cell m6
  replace m7 := q2.cell m7
  replace m8 := q2.cell m8
  have HD2 : Hid (DSl w2 (.slice ad n cap) D) := (HD.out.next HQ1.out).next q2
  have HE2 : Hid (DSl w2 (.slice ad' n' cap') D') := (HE.out.next HQ1.out).next q2
  obtain ⟨c, hc⟩ : ∃ c, chkP sp D = c := ⟨_, rfl⟩
  have HC : Hid (chkP sp D = c) := hc
  rw [hc]
  clear q2 hc HD HE HQ1
  go_wp2_with fail
  refine (l1 c w2).mono ?_
  rintro e w2' ⟨rfl, rfl⟩
  rcases Decidable.em (¬ c = 0) with h0 | h0
  · have h1 : (c != 0) = true := by rw [bne_iff_ne]; exact h0
    have h2 : (c == 0) = false := by rw [beq_eq_false_iff_ne]; exact h0
    go_wp2_with fail
    go_ret
    exact ⟨rfl, HQ2.out⟩
  replace h0 := Decidable.not_not.1 h0
  subst h0
  go_wp2_with fail
  refine (pcheck_any w2' sp' _ D' HE2.out HL'.out HEL.out.2).mono ?_
  rintro e w3 ⟨rfl, q3⟩
  have HQ3 : Hid (Q w w3) := HQ2.out.trans q3
  replace p0 := q3.cell p0
  replace p1 := q3.cell p1
  replace r0 := q3.cell r0
  replace r1 := q3.cell r1
  replace k0 := q3.cell k0
  replace k1 := q3.cell k1
  replace k2 := q3.cell k2
  replace k3 := q3.cell k3
  replace m0 := q3.cell m0
  replace m1 := q3.cell m1
  replace m2 := q3.cell m2
  replace m3 := q3.cell m3
  replace m4 := q3.cell m4
  replace m5 := q3.cell m5
  replace m6 := q3.cell m6
  replace m7 := q3.cell m7
  replace m8 := q3.cell m8
  have HD3 : Hid (DSl w3 (.slice ad n cap) D) := HD2.out.next q3
  have HE3 : Hid (DSl w3 (.slice ad' n' cap') D') := HE2.out.next q3
  obtain ⟨c', hc'⟩ : ∃ c', chkP sp' D' = c' := ⟨_, rfl⟩
  have HC' : Hid (chkP sp' D' = c') := hc'
  rw [hc']
  clear q3 hc' HD2 HE2 HQ2
  go_wp2_with fail
  refine (l1 c' w3).mono ?_
  rintro e w3' ⟨rfl, rfl⟩
  rcases Decidable.em (¬ c' = 0) with h0 | h0
  · have h1 : (c' != 0) = true := by rw [bne_iff_ne]; exact h0
    have h2 : (c' == 0) = false := by rw [beq_eq_false_iff_ne]; exact h0
    go_wp2_with fail
    go_ret
    exact ⟨rfl, HQ3.out⟩
  replace h0 := Decidable.not_not.1 h0
  subst h0
  obtain ⟨g, o, cap1, a, b, L, e1, e2, e3, e4, e5⟩ := chkP_zero HD3.out HC.out HT.out
  injection e1 with e1 e6 e7
  have HN : Hid (L.length = n) := e6.symm
  subst e1 e7
  rw [← e6] at e2 e4
  have HP : Hid (Pc w3' g o a b L) := e3
  have HSP : Hid (spcB sp (n : Int) = true) := e4
  have n1 : 1 ≤ n := by rw [e6]; exact e3.n1
  have n4 : n ≤ 4 := by rw [e6]; exact e3.n4
  have hcap : n ≤ cap := e2
  clear e2 e3 e4 e5 e6 HD3 HC
  obtain ⟨g', o', cap1, a', b', L', e1, e2, e3, e4, e5⟩ := chkP_zero HE3.out HC'.out HT'.out
  injection e1 with e1 e6 e7
  have HN' : Hid (L'.length = n') := e6.symm
  subst e1 e7
  rw [← e6] at e2 e4
  have HR : Hid (Pc w3' g' o' a' b' L') := e3
  have HSP' : Hid (spcB sp' (n' : Int) = true) := e4
  have n1' : 1 ≤ n' := by rw [e6]; exact e3.n1
  have n4' : n' ≤ 4 := by rw [e6]; exact e3.n4
  have hcap' : n' ≤ cap' := e2
  clear e2 e3 e4 e5 e6 HE3 HC' HL HT HL' HT' HDL HEL hD hD'
  go_wp2_with fail
  refine (crop_any x0 y0 x1 y1 w3' sp g o cap a b n L HP.out HN.out hcap HSP.out).mono ?_
  rintro e w4 ⟨spX, px, nx, cx, eX, rfl, HCX, q4⟩
  rcases HCX.out with ⟨hw, rfl, rfl, rfl, rfl, rfl⟩ | ⟨X, Y, c, d, gX, MX, hX, hY, hx1, hy1, hrc, hs1, hs2, hs3, hcx, rfl, hPX, hLX, hMX⟩
  · have HQ4 : Hid (Q w w4) := HQ3.out.trans q4
    go_wp2_with (go_at_call 5; refine (l1 _ _).mono ?_; rintro e w1 ⟨rfl, hw⟩; obtain rfl := hw.symm)
    go_ret
    exact ⟨rfl, HQ4.out.cells _ _⟩
  obtain rfl := hs1
  obtain rfl := hs2
  obtain rfl := hs3
  have HRC : Hid ((X : Int) = x0 ∧ (Y : Int) = y0 ∧ x1 = (X + c : Nat) ∧ y1 = (Y + d : Nat) ∧ Rct a b X Y c d) := ⟨hX, hY, hx1, hy1, hrc⟩
  have q5 : Q w3' (w4.alloc (Obj.cells #[Value.int IntKind.i64 sp, Value.slice (some { block := gX, off := 0 }) n cx] 24)) := q4.cells _ _
  have HQ5 : Hid (Q w (w4.alloc (Obj.cells #[Value.int IntKind.i64 sp, Value.slice (some { block := gX, off := 0 }) n cx] 24))) := HQ3.out.trans q5
  replace HP : Hid (Pc (w4.alloc (Obj.cells #[Value.int IntKind.i64 sp, Value.slice (some { block := gX, off := 0 }) n cx] 24)) g o a b L) := HP.out.next q5
  replace HR : Hid (Pc (w4.alloc (Obj.cells #[Value.int IntKind.i64 sp, Value.slice (some { block := gX, off := 0 }) n cx] 24)) g' o' a' b' L') := HR.out.next q5
  have HX : Hid (Pc (w4.alloc (Obj.cells #[Value.int IntKind.i64 sp, Value.slice (some { block := gX, off := 0 }) n cx] 24)) gX 0 c d MX) := hPX.next ((Q.refl w4).cells _ _)
  have HLX : Hid (MX.length = n) := hLX
  have HMX : Hid (MX.map PL.S = (L.map PL.S).map (cutL a X Y c d)) := hMX
  replace p0 := q5.cell p0
  replace p1 := q5.cell p1
  replace r0 := q5.cell r0
  replace r1 := q5.cell r1
  replace k0 := q5.cell k0
  replace k1 := q5.cell k1
  replace k2 := q5.cell k2
  replace k3 := q5.cell k3
  replace m0 := q5.cell m0
  replace m1 := q5.cell m1
  replace m2 := q5.cell m2
  replace m3 := q5.cell m3
  replace m4 := q5.cell m4
  replace m5 := q5.cell m5
  replace m6 := q5.cell m6
  replace m7 := q5.cell m7
  replace m8 := q5.cell m8
  have X0 : (w4.alloc (Obj.cells #[Value.int IntKind.i64 sp, Value.slice (some { block := gX, off := 0 }) n cx] 24)).cell? ⟨w4.heap.size, 0, none⟩ = some (.int .i64 sp) := by simp [go_sem]
  have X1 : (w4.alloc (Obj.cells #[Value.int IntKind.i64 sp, Value.slice (some { block := gX, off := 0 }) n cx] 24)).cell? ⟨w4.heap.size, 1, none⟩ = some (.slice (some ⟨gX, 0, none⟩) n cx) := by simp [go_sem]
  clear hX hY hx1 hy1 hrc hPX hLX hMX q4 HCX HQ3
  go_wp2_with (go_at_call 5; refine (l1 _ _).mono ?_; rintro e w1 ⟨rfl, hw⟩; obtain rfl := hw.symm)
  generalize (w4.alloc (Obj.cells #[Value.int IntKind.i64 sp, Value.slice (some { block := gX, off := 0 }) n cx] 24)) = w5 at *
  generalize w4.heap.size = B17 at *
  clear q5
  refine (crop_any x0 y0 x1 y1 w5 sp' g' o' cap' a' b' n' L' HR.out HN'.out hcap' HSP'.out).mono ?_
  rintro e w6 ⟨spY, py, ny, cy, eY, rfl, HCY, q6⟩
  have q7 : Q w5 (w6.alloc (Obj.cells #[Value.int IntKind.i64 spY, Value.slice py ny cy] 24)) := q6.cells _ _
  have HQ7 : Hid (Q w (w6.alloc (Obj.cells #[Value.int IntKind.i64 spY, Value.slice py ny cy] 24))) := HQ5.out.trans q7
  replace HP : Hid (Pc (w6.alloc (Obj.cells #[Value.int IntKind.i64 spY, Value.slice py ny cy] 24)) g o a b L) := HP.out.next q7
  replace HR : Hid (Pc (w6.alloc (Obj.cells #[Value.int IntKind.i64 spY, Value.slice py ny cy] 24)) g' o' a' b' L') := HR.out.next q7
  replace HX : Hid (Pc (w6.alloc (Obj.cells #[Value.int IntKind.i64 spY, Value.slice py ny cy] 24)) gX 0 c d MX) := HX.out.next q7
  replace HCY : Hid (Cro x0 y0 x1 y1 sp' a' b' n' L' (w6.alloc (Obj.cells #[Value.int IntKind.i64 spY, Value.slice py ny cy] 24)) spY py ny cy eY) := HCY.out.next ((Q.refl w6).cells _ _)
  replace p0 := q7.cell p0
  replace p1 := q7.cell p1
  replace r0 := q7.cell r0
  replace r1 := q7.cell r1
  replace k0 := q7.cell k0
  replace k1 := q7.cell k1
  replace k2 := q7.cell k2
  replace k3 := q7.cell k3
  replace m0 := q7.cell m0
  replace m1 := q7.cell m1
  replace m2 := q7.cell m2
  replace m3 := q7.cell m3
  replace m4 := q7.cell m4
  replace m5 := q7.cell m5
  replace m6 := q7.cell m6
  replace m7 := q7.cell m7
  replace m8 := q7.cell m8
  replace X0 := q7.cell X0
  replace X1 := q7.cell X1
  have Y0 : (w6.alloc (Obj.cells #[Value.int IntKind.i64 spY, Value.slice py ny cy] 24)).cell? ⟨w6.heap.size, 0, none⟩ = some (.int .i64 spY) := by simp [go_sem]
  have Y1 : (w6.alloc (Obj.cells #[Value.int IntKind.i64 spY, Value.slice py ny cy] 24)).cell? ⟨w6.heap.size, 1, none⟩ = some (.slice py ny cy) := by simp [go_sem]
  clear q6 HQ5
  go_wp2_with (go_at_call 5; refine (l1 _ _).mono ?_; rintro e w1 ⟨rfl, hw⟩; obtain rfl := hw.symm)
  generalize (w6.alloc (Obj.cells #[Value.int IntKind.i64 spY, Value.slice py ny cy] 24)) = w7 at *
  generalize w6.heap.size = B19 at *
  generalize w.heap.size = B0 at *
  clear q7
  obtain ⟨okC, sC, nC, eC, TC, hTC, heC, hC⟩ := conv_u sp tt n HSP.out
  obtain ⟨okM, sM, nM, eM, TM, hTM, heM, hM⟩ := matrix_u m HM.out sp n HSP.out
  obtain ⟨okF, hF0⟩ : ∃ b : Bool, b = true := ⟨true, rfl⟩
  have HF0 : Hid (okF = true) := hF0
  clear hF0
  have HLEN : Hid (∀ S ∈ L.map PL.S, S.length = a * b) := fun S hS => by obtain ⟨x, hx, rfl⟩ := List.mem_map.1 hS; exact (HP.out.it x hx).len
  have hF := affine_u A B hA hB sp n HSP.out
  obtain ⟨okW, sW, nW, eW, AW, heW, hW1, hW2⟩ := two_u HRC.out.1 HRC.out.2.1 HRC.out.2.2.1 HRC.out.2.2.2.1 kk w7 sp sp' g o cap a b n g' o' cap' a' b' n' gX cx L L' MX HRC.out.2.2.2.2 HP.out HN.out hcap HR.out HN'.out hcap' HSP.out HSP'.out HX.out HLX.out hcx HMX.out HCY.out
  have HC1 : Hid (∀ u, Q w7 u → Calls Try.prog 8 #[.agg #[.int .i64 sp, .slice (some ⟨g, o, none⟩) n cap], .int .i64 tt] u fun e w' => ∃ q k1, e = .returned (.tuple #[.agg #[.int .i64 sC, .slice q nC k1], .int .i64 eC]) ∧ Q u w' ∧ (okC = true → ∃ gC C, q = some ⟨gC, 0, none⟩ ∧ nC ≤ k1 ∧ C.length = nC ∧ Nw u.heap.size w' gC k1 a b C ∧ C.map PL.S = (TC) (L.map PL.S))) := fun u q => hC u g o cap a b L (HP.out.next q) HN.out hcap
  have HC2 : Hid (∀ u, Q w7 u → Calls Try.prog 8 #[.agg #[.int .i64 sp, .slice (some ⟨gX, 0, none⟩) n cx], .int .i64 tt] u fun e w' => ∃ q k1, e = .returned (.tuple #[.agg #[.int .i64 sC, .slice q nC k1], .int .i64 eC]) ∧ Q u w' ∧ (okC = true → ∃ gC C, q = some ⟨gC, 0, none⟩ ∧ nC ≤ k1 ∧ C.length = nC ∧ Nw u.heap.size w' gC k1 c d C ∧ C.map PL.S = (TC) (MX.map PL.S))) := fun u q => hC u gX 0 cx c d MX (HX.out.next q) HLX.out hcx
  have HKC : Hid ((TC) (MX.map PL.S) = ((TC) (L.map PL.S)).map (cutL a X Y c d)) := by show _ = _; rw [HMX.out]; exact hTC.cut HRC.out.2.2.2.2 _ HLEN.out
  have HF1 : Hid (∀ u, Q w7 u → Calls Try.prog 10 #[.agg #[.int .i64 sp, .slice (some ⟨g, o, none⟩) n cap], .int .i64 (-1), .int .u32 (A : Int), .int .u32 (B : Int)] u fun e w' => ∃ q k1, e = .returned (.tuple #[.agg #[.int .i64 sp, .slice q n k1], .int .i64 0]) ∧ Q u w' ∧ (okF = true → ∃ gC C, q = some ⟨gC, 0, none⟩ ∧ n ≤ k1 ∧ C.length = n ∧ Nw u.heap.size w' gC k1 a b C ∧ C.map PL.S = (chgL (affineV A B) (-1) 0) (L.map PL.S))) := fun u q => (hF u g o cap a b L (HP.out.next q) HN.out hcap).mono fun e w' ⟨q, k1, h1, h2, h3⟩ => ⟨q, k1, h1, h2, fun _ => h3 rfl⟩
  have HF2 : Hid (∀ u, Q w7 u → Calls Try.prog 10 #[.agg #[.int .i64 sp, .slice (some ⟨gX, 0, none⟩) n cx], .int .i64 (-1), .int .u32 (A : Int), .int .u32 (B : Int)] u fun e w' => ∃ q k1, e = .returned (.tuple #[.agg #[.int .i64 sp, .slice q n k1], .int .i64 0]) ∧ Q u w' ∧ (okF = true → ∃ gC C, q = some ⟨gC, 0, none⟩ ∧ n ≤ k1 ∧ C.length = n ∧ Nw u.heap.size w' gC k1 c d C ∧ C.map PL.S = (chgL (affineV A B) (-1) 0) (MX.map PL.S))) := fun u q => (hF u gX 0 cx c d MX (HX.out.next q) HLX.out hcx).mono fun e w' ⟨q, k1, h1, h2, h3⟩ => ⟨q, k1, h1, h2, fun _ => h3 rfl⟩
  have HKF : Hid ((chgL (affineV A B) (-1) 0) (MX.map PL.S) = ((chgL (affineV A B) (-1) 0) (L.map PL.S)).map (cutL a X Y c d)) := by show _ = _; rw [HMX.out]; exact (placed_chg _).cut HRC.out.2.2.2.2 _ HLEN.out
  have HM1 : Hid (∀ u, Q w7 u → Calls Try.prog 11 #[.agg #[.int .i64 sp, .slice (some ⟨g, o, none⟩) n cap], .agg #[.int .u32 ((m 0 : Nat) : Int), .int .u32 ((m 1 : Nat) : Int), .int .u32 ((m 2 : Nat) : Int), .int .u32 ((m 3 : Nat) : Int), .int .u32 ((m 4 : Nat) : Int), .int .u32 ((m 5 : Nat) : Int), .int .u32 ((m 6 : Nat) : Int), .int .u32 ((m 7 : Nat) : Int), .int .u32 ((m 8 : Nat) : Int)]] u fun e w' => ∃ q k1, e = .returned (.tuple #[.agg #[.int .i64 sM, .slice q nM k1], .int .i64 eM]) ∧ Q u w' ∧ (okM = true → ∃ gC C, q = some ⟨gC, 0, none⟩ ∧ nM ≤ k1 ∧ C.length = nM ∧ Nw u.heap.size w' gC k1 a b C ∧ C.map PL.S = (TM) (L.map PL.S))) := fun u q => hM u g o cap a b L (HP.out.next q) HN.out hcap
  have HM2 : Hid (∀ u, Q w7 u → Calls Try.prog 11 #[.agg #[.int .i64 sp, .slice (some ⟨gX, 0, none⟩) n cx], .agg #[.int .u32 ((m 0 : Nat) : Int), .int .u32 ((m 1 : Nat) : Int), .int .u32 ((m 2 : Nat) : Int), .int .u32 ((m 3 : Nat) : Int), .int .u32 ((m 4 : Nat) : Int), .int .u32 ((m 5 : Nat) : Int), .int .u32 ((m 6 : Nat) : Int), .int .u32 ((m 7 : Nat) : Int), .int .u32 ((m 8 : Nat) : Int)]] u fun e w' => ∃ q k1, e = .returned (.tuple #[.agg #[.int .i64 sM, .slice q nM k1], .int .i64 eM]) ∧ Q u w' ∧ (okM = true → ∃ gC C, q = some ⟨gC, 0, none⟩ ∧ nM ≤ k1 ∧ C.length = nM ∧ Nw u.heap.size w' gC k1 c d C ∧ C.map PL.S = (TM) (MX.map PL.S))) := fun u q => hM u gX 0 cx c d MX (HX.out.next q) HLX.out hcx
  have HKM : Hid ((TM) (MX.map PL.S) = ((TM) (L.map PL.S)).map (cutL a X Y c d)) := by show _ = _; rw [HMX.out]; exact hTM.cut HRC.out.2.2.2.2 _ HLEN.out
  have HW1 : Hid _ := hW1
  have HW2 : Hid _ := hW2
  have HPC : Hid (∀ (u : World) (s : Int) (gC kC nn gD kD : Nat) (LC LD : List PL), Pc u gC 0 a b LC → LC.length = nn → nn ≤ kC → Pc u gD 0 c d LD → nn ≤ kD → LD.map PL.S = (LC.map PL.S).map (cutL a X Y c d) → Calls Try.prog 9 #[.agg #[.int .i64 s, .slice (some ⟨gC, 0, none⟩) nn kC], .agg #[.int .i64 x0, .int .i64 y0, .int .i64 x1, .int .i64 y1], .agg #[.int .i64 s, .slice (some ⟨gD, 0, none⟩) nn kD]] u fun e w' => e = .returned (.bool true) ∧ Q u w') := fun u s gC kC nn gD kD LC LD h1 h2 h3 h4 h5 h6 => pieces_any HRC.out.1 HRC.out.2.1 HRC.out.2.2.1 HRC.out.2.2.2.1 u s HRC.out.2.2.2.2 h1 h2 h3 h4 h5 h6
  have HEC : Hid ((okC = true ∧ eC = 0) ∨ (okC = false ∧ ¬ eC = 0)) := heC
  have HEM : Hid ((okM = true ∧ eM = 0) ∨ (okM = false ∧ ¬ eM = 0)) := heM
  have HEW : Hid ((okW = true ∧ eW = 0) ∨ (okW = false ∧ ¬ eW = 0)) := heW
  have Hp0 : Hid _ := p0
  have Hp1 : Hid _ := p1
  have Hk0 : Hid _ := k0
  have Hk1 : Hid _ := k1
  have Hk2 : Hid _ := k2
  have Hk3 : Hid _ := k3
  have HXa : Hid _ := X0
  have HXb : Hid _ := X1
  have HYa : Hid _ := Y0
  have HYb : Hid _ := Y1
  have Hr0 : Hid _ := r0
  have Hr1 : Hid _ := r1
  have Hm0 : Hid _ := m0
  have Hm1 : Hid _ := m1
  have Hm2 : Hid _ := m2
  have Hm3 : Hid _ := m3
  have Hm4 : Hid _ := m4
  have Hm5 : Hid _ := m5
  have Hm6 : Hid _ := m6
  have Hm7 : Hid _ := m7
  have Hm8 : Hid _ := m8
  clear hTC heC hC hTM heM hM hF heW hW1 hW2 hA hB HM HRC HMX HLX HX HR HCY HLEN HP HN HN' HSP HSP' hcap hcap' hcx n1 n4 n1' n4'
  refine (HC1.out w7 (Q.refl _)).mono ?_
  rintro e u1 ⟨qC, kC, rfl, q1, hok⟩
  obtain ⟨u2, hu2⟩ : ∃ u2, u1.alloc (.cells #[.int .i64 sC, .slice qC nC kC] 24) = u2 := ⟨_, rfl⟩
  have q12 : Q u1 u2 := by rw [← hu2]; exact (Q.refl u1).cells _ _
  have b21 : Hid (Bx u2 u1.heap.size (.int .i64 sC) (.slice qC nC kC)) := by show Bx _ _ _ _; rw [← hu2]; exact ⟨by simp [go_sem], by simp [go_sem], fun j => by simp [go_sem]⟩
  have HU : Hid (Q w7 u2) := q1.trans q12
  have HL1 : Hid (w7.heap.size ≤ u1.heap.size ∧ u1.heap.size < u2.heap.size) := ⟨q1.1.size, World.block_lt_of_cell? u2 ⟨u1.heap.size, 0, none⟩ b21.out.c0⟩
  have HO1 : Hid (okC = true → ∃ gC C, qC = some ⟨gC, 0, none⟩ ∧ nC ≤ kC ∧ C.length = nC ∧ Nw w7.heap.size u2 gC kC a b C ∧ C.map PL.S = TC (L.map PL.S)) := fun h => by obtain ⟨gC, C, h1, h2, h3, h4, h5⟩ := hok h; exact ⟨gC, C, h1, h2, h3, h4.next q12, h5⟩
  clear q1 q12 hok
  replace p0 := HU.out.cell Hp0.out
  replace p1 := HU.out.cell Hp1.out
  replace k0 := HU.out.cell Hk0.out
  replace k1 := HU.out.cell Hk1.out
  replace k2 := HU.out.cell Hk2.out
  replace k3 := HU.out.cell Hk3.out
  replace X0 := HU.out.cell HXa.out
  replace X1 := HU.out.cell HXb.out
  replace Y0 := HU.out.cell HYa.out
  replace Y1 := HU.out.cell HYb.out
  replace r0 := HU.out.cell Hr0.out
  replace r1 := HU.out.cell Hr1.out
  replace m0 := HU.out.cell Hm0.out
  replace m1 := HU.out.cell Hm1.out
  replace m2 := HU.out.cell Hm2.out
  replace m3 := HU.out.cell Hm3.out
  replace m4 := HU.out.cell Hm4.out
  replace m5 := HU.out.cell Hm5.out
  replace m6 := HU.out.cell Hm6.out
  replace m7 := HU.out.cell Hm7.out
  replace m8 := HU.out.cell Hm8.out
  go_wp2_with (go_at_call 5; refine (l1 _ _).mono ?_; rintro e w1 ⟨rfl, hw⟩; obtain rfl := hw.symm)
  generalize u1.heap.size = B21 at *
  clear hu2
  refine (HC2.out u2 HU.out).mono ?_
  rintro e u3 ⟨qD, kD, rfl, q3, hok⟩
  obtain ⟨u4, hu4⟩ : ∃ u4, u3.alloc (.cells #[.int .i64 sC, .slice qD nC kD] 24) = u4 := ⟨_, rfl⟩
  have q34 : Q u3 u4 := by rw [← hu4]; exact (Q.refl u3).cells _ _
  have b23 : Hid (Bx u4 u3.heap.size (.int .i64 sC) (.slice qD nC kD)) := by show Bx _ _ _ _; rw [← hu4]; exact ⟨by simp [go_sem], by simp [go_sem], fun j => by simp [go_sem]⟩
  replace b21 : Hid (Bx u4 B21 (.int .i64 sC) (.slice qC nC kC)) := b21.out.next (q3.trans q34)
  replace HU : Hid (Q w7 u4) := HU.out.trans (q3.trans q34)
  have HL : Hid (w7.heap.size ≤ B21 ∧ B21 < u3.heap.size) := ⟨HL1.out.1, Nat.lt_of_lt_of_le HL1.out.2 q3.1.size⟩
  have HO2 : Hid (okC = true → ∃ gC C, qD = some ⟨gC, 0, none⟩ ∧ nC ≤ kD ∧ C.length = nC ∧ Nw u2.heap.size u4 gC kD c d C ∧ C.map PL.S = TC (MX.map PL.S)) := fun h => by obtain ⟨gC, C, h1, h2, h3, h4, h5⟩ := hok h; exact ⟨gC, C, h1, h2, h3, h4.next q34, h5⟩
  replace HO1 : Hid (okC = true → ∃ gC C, qC = some ⟨gC, 0, none⟩ ∧ nC ≤ kC ∧ C.length = nC ∧ Nw w7.heap.size u4 gC kC a b C ∧ C.map PL.S = TC (L.map PL.S)) := fun h => by obtain ⟨gC, C, h1, h2, h3, h4, h5⟩ := HO1.out h; exact ⟨gC, C, h1, h2, h3, h4.next (q3.trans q34), h5⟩
  clear q3 q34 hok HL1
  replace p0 := HU.out.cell Hp0.out
  replace p1 := HU.out.cell Hp1.out
  replace k0 := HU.out.cell Hk0.out
  replace k1 := HU.out.cell Hk1.out
  replace k2 := HU.out.cell Hk2.out
  replace k3 := HU.out.cell Hk3.out
  replace X0 := HU.out.cell HXa.out
  replace X1 := HU.out.cell HXb.out
  replace Y0 := HU.out.cell HYa.out
  replace Y1 := HU.out.cell HYb.out
  replace r0 := HU.out.cell Hr0.out
  replace r1 := HU.out.cell Hr1.out
  replace m0 := HU.out.cell Hm0.out
  replace m1 := HU.out.cell Hm1.out
  replace m2 := HU.out.cell Hm2.out
  replace m3 := HU.out.cell Hm3.out
  replace m4 := HU.out.cell Hm4.out
  replace m5 := HU.out.cell Hm5.out
  replace m6 := HU.out.cell Hm6.out
  replace m7 := HU.out.cell Hm7.out
  replace m8 := HU.out.cell Hm8.out
  have c0 := b21.out.c0
  have c1 := b21.out.c1
  have d0 := b23.out.c0
  have d1 := b23.out.c1
  have t1 : (eC != eC) = false := by simp
  rcases HEC.out with ⟨hok, he⟩ | ⟨hok, he⟩
  · subst hok he
    obtain ⟨gC, C, rfl, i1, i2, i3, i4⟩ := HO1.out rfl
    obtain ⟨gD, D, rfl, j1, j2, j3, j4⟩ := HO2.out rfl
    have HZ := HPC.out u4 sC gC kC nC gD kD C D i3.pc i2 i1 j3.pc j1 (by rw [j4, HKC.out, i4])
    have HZ : Hid _ := HZ
    clear i1 i2 i3 i4 j1 j2 j3 j4 HO1 HO2
    go_wp2_with (go_at_call 5; refine (l1 _ _).mono ?_; rintro e w1 ⟨rfl, hw⟩; obtain rfl := hw.symm)
    generalize u3.heap.size = B23 at *
    clear hu4
    refine Calls.mono HZ.out ?_
    rintro e v ⟨rfl, q⟩
    replace HU : Hid (Q w7 v) := HU.out.trans q
    replace b21 : Hid (Bx v B21 (.int .i64 sC) (.slice (some ⟨gC, 0, none⟩) nC kC)) := b21.out.next q
    replace b23 : Hid (Bx v B23 (.int .i64 sC) (.slice (some ⟨gD, 0, none⟩) nC kD)) := b23.out.next q
    clear q HZ c0 c1 d0 d1
    replace p0 := HU.out.cell Hp0.out
    replace p1 := HU.out.cell Hp1.out
    replace k0 := HU.out.cell Hk0.out
    replace k1 := HU.out.cell Hk1.out
    replace k2 := HU.out.cell Hk2.out
    replace k3 := HU.out.cell Hk3.out
    replace X0 := HU.out.cell HXa.out
    replace X1 := HU.out.cell HXb.out
    replace Y0 := HU.out.cell HYa.out
    replace Y1 := HU.out.cell HYb.out
    replace r0 := HU.out.cell Hr0.out
    replace r1 := HU.out.cell Hr1.out
    replace m0 := HU.out.cell Hm0.out
    replace m1 := HU.out.cell Hm1.out
    replace m2 := HU.out.cell Hm2.out
    replace m3 := HU.out.cell Hm3.out
    replace m4 := HU.out.cell Hm4.out
    replace m5 := HU.out.cell Hm5.out
    replace m6 := HU.out.cell Hm6.out
    replace m7 := HU.out.cell Hm7.out
    replace m8 := HU.out.cell Hm8.out
    go_wp2_with (go_at_call 5; refine (l1 _ _).mono ?_; rintro e w1 ⟨rfl, hw⟩; obtain rfl := hw.symm)
    refine (HF1.out v HU.out).mono ?_
    rintro e z1a ⟨qC, kC, rfl, q1, hok⟩
    obtain ⟨z1b, hz1b⟩ : ∃ y, (z1a.setCell ⟨B21, 0, none⟩ (.int .i64 sp)).setCell ⟨B21, 1, none⟩ (.slice qC n kC) = y := ⟨_, rfl⟩
    have hv3 : B23 < v.heap.size := World.block_lt_of_cell? v ⟨B23, 0, none⟩ b23.out.c0
    have z0 := (b21.out.next q1).c0
    have z1 := (b21.out.next q1).c1
    have z2 := (b21.out.next q1).fz 0
    have z3 := (b21.out.next q1).fz 1
    have b21n : Hid (Bx z1b B21 (.int .i64 sp) (.slice qC n kC)) := by show Bx _ _ _ _; rw [← hz1b]; exact (b21.out.next q1).set _ _
    have b23n := (b23.out.next q1).other (C := B21) (by have := HL.out.2; omega) (.int .i64 sp) (.slice qC n kC)
    rw [hz1b] at b23n
    have b23n : Hid _ := b23n
    replace HU : Hid (Q w7 z1b) := by show Q _ _; rw [← hz1b]; exact ((HU.out.trans q1).set HL.out.1 _).set HL.out.1 _
    have HO1 : Hid (okF = true → ∃ gC C, qC = some ⟨gC, 0, none⟩ ∧ n ≤ kC ∧ C.length = n ∧ Pc z1b gC 0 a b C ∧ (gC ≠ B23 ∧ ∀ x ∈ C, x.g ≠ B23) ∧ C.map PL.S = (chgL (affineV A B) (-1) 0) (L.map PL.S)) := fun h => by
      obtain ⟨gC, C, h1, h2, h3, h4, h5⟩ := hok h
      refine ⟨gC, C, h1, h2, h3, ?_, h4.apart hv3, h5⟩
      rw [← hz1b]
      have ap := h4.apart (B := B21) (by have := HL.out.2; omega)
      exact h4.pc.set ap.1 ap.2 _ _
    clear q1 hok b21 b23 hv3
    have b21 := b21n
    have b23 := b23n
    clear b21n b23n
    replace p0 := HU.out.cell Hp0.out
    replace p1 := HU.out.cell Hp1.out
    replace k0 := HU.out.cell Hk0.out
    replace k1 := HU.out.cell Hk1.out
    replace k2 := HU.out.cell Hk2.out
    replace k3 := HU.out.cell Hk3.out
    replace X0 := HU.out.cell HXa.out
    replace X1 := HU.out.cell HXb.out
    replace Y0 := HU.out.cell HYa.out
    replace Y1 := HU.out.cell HYb.out
    replace r0 := HU.out.cell Hr0.out
    replace r1 := HU.out.cell Hr1.out
    replace m0 := HU.out.cell Hm0.out
    replace m1 := HU.out.cell Hm1.out
    replace m2 := HU.out.cell Hm2.out
    replace m3 := HU.out.cell Hm3.out
    replace m4 := HU.out.cell Hm4.out
    replace m5 := HU.out.cell Hm5.out
    replace m6 := HU.out.cell Hm6.out
    replace m7 := HU.out.cell Hm7.out
    replace m8 := HU.out.cell Hm8.out
    go_wp2_with (go_at_call 5; refine (l1 _ _).mono ?_; rintro e w1 ⟨rfl, hw⟩; obtain rfl := hw.symm)
    clear hz1b z0 z1 z2 z3
    refine (HF2.out z1b HU.out).mono ?_
    rintro e z1c ⟨qD, kD, rfl, q3, hok⟩
    obtain ⟨z1d, hz1d⟩ : ∃ y, (z1c.setCell ⟨B23, 0, none⟩ (.int .i64 sp)).setCell ⟨B23, 1, none⟩ (.slice qD n kD) = y := ⟨_, rfl⟩
    have hv3 : B23 < z1b.heap.size := World.block_lt_of_cell? z1b ⟨B23, 0, none⟩ b23.out.c0
    have z0 := (b23.out.next q3).c0
    have z1 := (b23.out.next q3).c1
    have z2 := (b23.out.next q3).fz 0
    have z3 := (b23.out.next q3).fz 1
    have b23n : Hid (Bx z1d B23 (.int .i64 sp) (.slice qD n kD)) := by show Bx _ _ _ _; rw [← hz1d]; exact (b23.out.next q3).set _ _
    have b21n : Hid (Bx z1d B21 (.int .i64 sp) (.slice qC n kC)) := by show Bx _ _ _ _; rw [← hz1d]; exact (b21.out.next q3).other (by have := HL.out.2; omega) _ _
    replace HU : Hid (Q w7 z1d) := by show Q _ _; rw [← hz1d]; exact ((HU.out.trans q3).set (by have := HL.out; show _ ≤ B23; omega) _).set (by have := HL.out; show _ ≤ B23; omega) _
    replace HO1 : Hid (okF = true → ∃ gC C, qC = some ⟨gC, 0, none⟩ ∧ n ≤ kC ∧ C.length = n ∧ Pc z1d gC 0 a b C ∧ C.map PL.S = (chgL (affineV A B) (-1) 0) (L.map PL.S)) := fun h => by
      obtain ⟨gC, C, h1, h2, h3, h4, h6, h5⟩ := HO1.out h
      refine ⟨gC, C, h1, h2, h3, ?_, h5⟩
      rw [← hz1d]
      exact (h4.next q3).set h6.1 h6.2 _ _
    have HO2 : Hid (okF = true → ∃ gC C, qD = some ⟨gC, 0, none⟩ ∧ n ≤ kD ∧ C.length = n ∧ Pc z1d gC 0 c d C ∧ C.map PL.S = (chgL (affineV A B) (-1) 0) (MX.map PL.S)) := fun h => by
      obtain ⟨gC, C, h1, h2, h3, h4, h5⟩ := hok h
      refine ⟨gC, C, h1, h2, h3, ?_, h5⟩
      rw [← hz1d]
      have ap := h4.apart (B := B23) hv3
      exact h4.pc.set ap.1 ap.2 _ _
    clear q3 hok b21 b23 hv3
    have b21 := b21n
    have b23 := b23n
    clear b21n b23n
    replace p0 := HU.out.cell Hp0.out
    replace p1 := HU.out.cell Hp1.out
    replace k0 := HU.out.cell Hk0.out
    replace k1 := HU.out.cell Hk1.out
    replace k2 := HU.out.cell Hk2.out
    replace k3 := HU.out.cell Hk3.out
    replace X0 := HU.out.cell HXa.out
    replace X1 := HU.out.cell HXb.out
    replace Y0 := HU.out.cell HYa.out
    replace Y1 := HU.out.cell HYb.out
    replace r0 := HU.out.cell Hr0.out
    replace r1 := HU.out.cell Hr1.out
    replace m0 := HU.out.cell Hm0.out
    replace m1 := HU.out.cell Hm1.out
    replace m2 := HU.out.cell Hm2.out
    replace m3 := HU.out.cell Hm3.out
    replace m4 := HU.out.cell Hm4.out
    replace m5 := HU.out.cell Hm5.out
    replace m6 := HU.out.cell Hm6.out
    replace m7 := HU.out.cell Hm7.out
    replace m8 := HU.out.cell Hm8.out
    have c0 := b21.out.c0
    have c1 := b21.out.c1
    have d0 := b23.out.c0
    have d1 := b23.out.c1
    obtain ⟨gC, C, rfl, i1, i2, i3, i4⟩ := HO1.out HF0.out
    obtain ⟨gD, D, rfl, j1, j2, j3, j4⟩ := HO2.out HF0.out
    have HZ := HPC.out z1d sp gC kC n gD kD C D i3 i2 i1 j3 j1 (by rw [j4, HKF.out, i4])
    have HZ : Hid _ := HZ
    clear i1 i2 i3 i4 j1 j2 j3 j4 HO1 HO2
    go_wp2_with (go_at_call 5; refine (l1 _ _).mono ?_; rintro e w1 ⟨rfl, hw⟩; obtain rfl := hw.symm)
    clear hz1d z0 z1 z2 z3
    refine Calls.mono HZ.out ?_
    rintro e y2 ⟨rfl, q⟩
    replace HU : Hid (Q w7 y2) := HU.out.trans q
    replace b21 : Hid (Bx y2 B21 (.int .i64 sp) (.slice (some ⟨gC, 0, none⟩) n kC)) := b21.out.next q
    replace b23 : Hid (Bx y2 B23 (.int .i64 sp) (.slice (some ⟨gD, 0, none⟩) n kD)) := b23.out.next q
    clear q HZ c0 c1 d0 d1
    replace p0 := HU.out.cell Hp0.out
    replace p1 := HU.out.cell Hp1.out
    replace k0 := HU.out.cell Hk0.out
    replace k1 := HU.out.cell Hk1.out
    replace k2 := HU.out.cell Hk2.out
    replace k3 := HU.out.cell Hk3.out
    replace X0 := HU.out.cell HXa.out
    replace X1 := HU.out.cell HXb.out
    replace Y0 := HU.out.cell HYa.out
    replace Y1 := HU.out.cell HYb.out
    replace r0 := HU.out.cell Hr0.out
    replace r1 := HU.out.cell Hr1.out
    replace m0 := HU.out.cell Hm0.out
    replace m1 := HU.out.cell Hm1.out
    replace m2 := HU.out.cell Hm2.out
    replace m3 := HU.out.cell Hm3.out
    replace m4 := HU.out.cell Hm4.out
    replace m5 := HU.out.cell Hm5.out
    replace m6 := HU.out.cell Hm6.out
    replace m7 := HU.out.cell Hm7.out
    replace m8 := HU.out.cell Hm8.out
    go_wp2_with (go_at_call 5; refine (l1 _ _).mono ?_; rintro e w1 ⟨rfl, hw⟩; obtain rfl := hw.symm)
    refine (HM1.out y2 HU.out).mono ?_
    rintro e z3a ⟨qC, kC, rfl, q1, hok⟩
    obtain ⟨z3b, hz3b⟩ : ∃ y, (z3a.setCell ⟨B21, 0, none⟩ (.int .i64 sM)).setCell ⟨B21, 1, none⟩ (.slice qC nM kC) = y := ⟨_, rfl⟩
    have hv3 : B23 < y2.heap.size := World.block_lt_of_cell? y2 ⟨B23, 0, none⟩ b23.out.c0
    have z0 := (b21.out.next q1).c0
    have z1 := (b21.out.next q1).c1
    have z2 := (b21.out.next q1).fz 0
    have z3 := (b21.out.next q1).fz 1
    have b21n : Hid (Bx z3b B21 (.int .i64 sM) (.slice qC nM kC)) := by show Bx _ _ _ _; rw [← hz3b]; exact (b21.out.next q1).set _ _
    have b23n := (b23.out.next q1).other (C := B21) (by have := HL.out.2; omega) (.int .i64 sM) (.slice qC nM kC)
    rw [hz3b] at b23n
    have b23n : Hid _ := b23n
    replace HU : Hid (Q w7 z3b) := by show Q _ _; rw [← hz3b]; exact ((HU.out.trans q1).set HL.out.1 _).set HL.out.1 _
    have HO1 : Hid (okM = true → ∃ gC C, qC = some ⟨gC, 0, none⟩ ∧ nM ≤ kC ∧ C.length = nM ∧ Pc z3b gC 0 a b C ∧ (gC ≠ B23 ∧ ∀ x ∈ C, x.g ≠ B23) ∧ C.map PL.S = TM (L.map PL.S)) := fun h => by
      obtain ⟨gC, C, h1, h2, h3, h4, h5⟩ := hok h
      refine ⟨gC, C, h1, h2, h3, ?_, h4.apart hv3, h5⟩
      rw [← hz3b]
      have ap := h4.apart (B := B21) (by have := HL.out.2; omega)
      exact h4.pc.set ap.1 ap.2 _ _
    clear q1 hok b21 b23 hv3
    have b21 := b21n
    have b23 := b23n
    clear b21n b23n
    replace p0 := HU.out.cell Hp0.out
    replace p1 := HU.out.cell Hp1.out
    replace k0 := HU.out.cell Hk0.out
    replace k1 := HU.out.cell Hk1.out
    replace k2 := HU.out.cell Hk2.out
    replace k3 := HU.out.cell Hk3.out
    replace X0 := HU.out.cell HXa.out
    replace X1 := HU.out.cell HXb.out
    replace Y0 := HU.out.cell HYa.out
    replace Y1 := HU.out.cell HYb.out
    replace r0 := HU.out.cell Hr0.out
    replace r1 := HU.out.cell Hr1.out
    replace m0 := HU.out.cell Hm0.out
    replace m1 := HU.out.cell Hm1.out
    replace m2 := HU.out.cell Hm2.out
    replace m3 := HU.out.cell Hm3.out
    replace m4 := HU.out.cell Hm4.out
    replace m5 := HU.out.cell Hm5.out
    replace m6 := HU.out.cell Hm6.out
    replace m7 := HU.out.cell Hm7.out
    replace m8 := HU.out.cell Hm8.out
    go_wp2_with (go_at_call 5; refine (l1 _ _).mono ?_; rintro e w1 ⟨rfl, hw⟩; obtain rfl := hw.symm)
    clear hz3b z0 z1 z2 z3
    refine (HM2.out z3b HU.out).mono ?_
    rintro e z3c ⟨qD, kD, rfl, q3, hok⟩
    obtain ⟨z3d, hz3d⟩ : ∃ y, (z3c.setCell ⟨B23, 0, none⟩ (.int .i64 sM)).setCell ⟨B23, 1, none⟩ (.slice qD nM kD) = y := ⟨_, rfl⟩
    have hv3 : B23 < z3b.heap.size := World.block_lt_of_cell? z3b ⟨B23, 0, none⟩ b23.out.c0
    have z0 := (b23.out.next q3).c0
    have z1 := (b23.out.next q3).c1
    have z2 := (b23.out.next q3).fz 0
    have z3 := (b23.out.next q3).fz 1
    have b23n : Hid (Bx z3d B23 (.int .i64 sM) (.slice qD nM kD)) := by show Bx _ _ _ _; rw [← hz3d]; exact (b23.out.next q3).set _ _
    have b21n : Hid (Bx z3d B21 (.int .i64 sM) (.slice qC nM kC)) := by show Bx _ _ _ _; rw [← hz3d]; exact (b21.out.next q3).other (by have := HL.out.2; omega) _ _
    replace HU : Hid (Q w7 z3d) := by show Q _ _; rw [← hz3d]; exact ((HU.out.trans q3).set (by have := HL.out; show _ ≤ B23; omega) _).set (by have := HL.out; show _ ≤ B23; omega) _
    replace HO1 : Hid (okM = true → ∃ gC C, qC = some ⟨gC, 0, none⟩ ∧ nM ≤ kC ∧ C.length = nM ∧ Pc z3d gC 0 a b C ∧ C.map PL.S = TM (L.map PL.S)) := fun h => by
      obtain ⟨gC, C, h1, h2, h3, h4, h6, h5⟩ := HO1.out h
      refine ⟨gC, C, h1, h2, h3, ?_, h5⟩
      rw [← hz3d]
      exact (h4.next q3).set h6.1 h6.2 _ _
    have HO2 : Hid (okM = true → ∃ gC C, qD = some ⟨gC, 0, none⟩ ∧ nM ≤ kD ∧ C.length = nM ∧ Pc z3d gC 0 c d C ∧ C.map PL.S = TM (MX.map PL.S)) := fun h => by
      obtain ⟨gC, C, h1, h2, h3, h4, h5⟩ := hok h
      refine ⟨gC, C, h1, h2, h3, ?_, h5⟩
      rw [← hz3d]
      have ap := h4.apart (B := B23) hv3
      exact h4.pc.set ap.1 ap.2 _ _
    clear q3 hok b21 b23 hv3
    have b21 := b21n
    have b23 := b23n
    clear b21n b23n
    replace p0 := HU.out.cell Hp0.out
    replace p1 := HU.out.cell Hp1.out
    replace k0 := HU.out.cell Hk0.out
    replace k1 := HU.out.cell Hk1.out
    replace k2 := HU.out.cell Hk2.out
    replace k3 := HU.out.cell Hk3.out
    replace X0 := HU.out.cell HXa.out
    replace X1 := HU.out.cell HXb.out
    replace Y0 := HU.out.cell HYa.out
    replace Y1 := HU.out.cell HYb.out
    replace r0 := HU.out.cell Hr0.out
    replace r1 := HU.out.cell Hr1.out
    replace m0 := HU.out.cell Hm0.out
    replace m1 := HU.out.cell Hm1.out
    replace m2 := HU.out.cell Hm2.out
    replace m3 := HU.out.cell Hm3.out
    replace m4 := HU.out.cell Hm4.out
    replace m5 := HU.out.cell Hm5.out
    replace m6 := HU.out.cell Hm6.out
    replace m7 := HU.out.cell Hm7.out
    replace m8 := HU.out.cell Hm8.out
    have c0 := b21.out.c0
    have c1 := b21.out.c1
    have d0 := b23.out.c0
    have d1 := b23.out.c1
    have t1 : (eM != eM) = false := by simp
    rcases HEM.out with ⟨hok, he⟩ | ⟨hok, he⟩
    · subst hok he
      obtain ⟨gC, C, rfl, i1, i2, i3, i4⟩ := HO1.out rfl
      obtain ⟨gD, D, rfl, j1, j2, j3, j4⟩ := HO2.out rfl
      have HZ := HPC.out z3d sM gC kC nM gD kD C D i3 i2 i1 j3 j1 (by rw [j4, HKM.out, i4])
      have HZ : Hid _ := HZ
      clear i1 i2 i3 i4 j1 j2 j3 j4 HO1 HO2
      go_wp2_with (go_at_call 5; refine (l1 _ _).mono ?_; rintro e w1 ⟨rfl, hw⟩; obtain rfl := hw.symm)
      clear hz3d z0 z1 z2 z3
      refine Calls.mono HZ.out ?_
      rintro e y4 ⟨rfl, q⟩
      replace HU : Hid (Q w7 y4) := HU.out.trans q
      replace b21 : Hid (Bx y4 B21 (.int .i64 sM) (.slice (some ⟨gC, 0, none⟩) nM kC)) := b21.out.next q
      replace b23 : Hid (Bx y4 B23 (.int .i64 sM) (.slice (some ⟨gD, 0, none⟩) nM kD)) := b23.out.next q
      clear q HZ c0 c1 d0 d1
      replace p0 := HU.out.cell Hp0.out
      replace p1 := HU.out.cell Hp1.out
      replace k0 := HU.out.cell Hk0.out
      replace k1 := HU.out.cell Hk1.out
      replace k2 := HU.out.cell Hk2.out
      replace k3 := HU.out.cell Hk3.out
      replace X0 := HU.out.cell HXa.out
      replace X1 := HU.out.cell HXb.out
      replace Y0 := HU.out.cell HYa.out
      replace Y1 := HU.out.cell HYb.out
      replace r0 := HU.out.cell Hr0.out
      replace r1 := HU.out.cell Hr1.out
      replace m0 := HU.out.cell Hm0.out
      replace m1 := HU.out.cell Hm1.out
      replace m2 := HU.out.cell Hm2.out
      replace m3 := HU.out.cell Hm3.out
      replace m4 := HU.out.cell Hm4.out
      replace m5 := HU.out.cell Hm5.out
      replace m6 := HU.out.cell Hm6.out
      replace m7 := HU.out.cell Hm7.out
      replace m8 := HU.out.cell Hm8.out
      go_wp2_with (go_at_call 5; refine (l1 _ _).mono ?_; rintro e w1 ⟨rfl, hw⟩; obtain rfl := hw.symm)
      refine (HW1.out y4 HU.out).mono ?_
      rintro e z5a ⟨qC, kC, rfl, q1, hok⟩
      obtain ⟨z5b, hz5b⟩ : ∃ y, (z5a.setCell ⟨B21, 0, none⟩ (.int .i64 sW)).setCell ⟨B21, 1, none⟩ (.slice qC nW kC) = y := ⟨_, rfl⟩
      have hv3 : B23 < y4.heap.size := World.block_lt_of_cell? y4 ⟨B23, 0, none⟩ b23.out.c0
      have z0 := (b21.out.next q1).c0
      have z1 := (b21.out.next q1).c1
      have z2 := (b21.out.next q1).fz 0
      have z3 := (b21.out.next q1).fz 1
      have b21n : Hid (Bx z5b B21 (.int .i64 sW) (.slice qC nW kC)) := by show Bx _ _ _ _; rw [← hz5b]; exact (b21.out.next q1).set _ _
      have b23n := (b23.out.next q1).other (C := B21) (by have := HL.out.2; omega) (.int .i64 sW) (.slice qC nW kC)
      rw [hz5b] at b23n
      have b23n : Hid _ := b23n
      replace HU : Hid (Q w7 z5b) := by show Q _ _; rw [← hz5b]; exact ((HU.out.trans q1).set HL.out.1 _).set HL.out.1 _
      have HO1 : Hid (okW = true → ∃ gC C, qC = some ⟨gC, 0, none⟩ ∧ nW ≤ kC ∧ C.length = nW ∧ Pc z5b gC 0 a b C ∧ (gC ≠ B23 ∧ ∀ x ∈ C, x.g ≠ B23) ∧ C.map PL.S = AW) := fun h => by
        obtain ⟨gC, C, h1, h2, h3, h4, h5⟩ := hok h
        refine ⟨gC, C, h1, h2, h3, ?_, h4.apart hv3, h5⟩
        rw [← hz5b]
        have ap := h4.apart (B := B21) (by have := HL.out.2; omega)
        exact h4.pc.set ap.1 ap.2 _ _
      clear q1 hok b21 b23 hv3
      have b21 := b21n
      have b23 := b23n
      clear b21n b23n
      replace p0 := HU.out.cell Hp0.out
      replace p1 := HU.out.cell Hp1.out
      replace k0 := HU.out.cell Hk0.out
      replace k1 := HU.out.cell Hk1.out
      replace k2 := HU.out.cell Hk2.out
      replace k3 := HU.out.cell Hk3.out
      replace X0 := HU.out.cell HXa.out
      replace X1 := HU.out.cell HXb.out
      replace Y0 := HU.out.cell HYa.out
      replace Y1 := HU.out.cell HYb.out
      replace r0 := HU.out.cell Hr0.out
      replace r1 := HU.out.cell Hr1.out
      replace m0 := HU.out.cell Hm0.out
      replace m1 := HU.out.cell Hm1.out
      replace m2 := HU.out.cell Hm2.out
      replace m3 := HU.out.cell Hm3.out
      replace m4 := HU.out.cell Hm4.out
      replace m5 := HU.out.cell Hm5.out
      replace m6 := HU.out.cell Hm6.out
      replace m7 := HU.out.cell Hm7.out
      replace m8 := HU.out.cell Hm8.out
      go_wp2_with (go_at_call 5; refine (l1 _ _).mono ?_; rintro e w1 ⟨rfl, hw⟩; obtain rfl := hw.symm)
      clear hz5b z0 z1 z2 z3
      refine (HW2.out z5b HU.out).mono ?_
      rintro e z5c ⟨sD, qD, mD, kD, eD, rfl, q3, hok⟩
      obtain ⟨z5d, hz5d⟩ : ∃ y, (z5c.setCell ⟨B23, 0, none⟩ (.int .i64 sD)).setCell ⟨B23, 1, none⟩ (.slice qD mD kD) = y := ⟨_, rfl⟩
      have hv3 : B23 < z5b.heap.size := World.block_lt_of_cell? z5b ⟨B23, 0, none⟩ b23.out.c0
      have z0 := (b23.out.next q3).c0
      have z1 := (b23.out.next q3).c1
      have z2 := (b23.out.next q3).fz 0
      have z3 := (b23.out.next q3).fz 1
      have b23n : Hid (Bx z5d B23 (.int .i64 sD) (.slice qD mD kD)) := by show Bx _ _ _ _; rw [← hz5d]; exact (b23.out.next q3).set _ _
      have b21n : Hid (Bx z5d B21 (.int .i64 sW) (.slice qC nW kC)) := by show Bx _ _ _ _; rw [← hz5d]; exact (b21.out.next q3).other (by have := HL.out.2; omega) _ _
      replace HU : Hid (Q w7 z5d) := by show Q _ _; rw [← hz5d]; exact ((HU.out.trans q3).set (by have := HL.out; show _ ≤ B23; omega) _).set (by have := HL.out; show _ ≤ B23; omega) _
      replace HO1 : Hid (okW = true → ∃ gC C, qC = some ⟨gC, 0, none⟩ ∧ nW ≤ kC ∧ C.length = nW ∧ Pc z5d gC 0 a b C ∧ C.map PL.S = AW) := fun h => by
        obtain ⟨gC, C, h1, h2, h3, h4, h6, h5⟩ := HO1.out h
        refine ⟨gC, C, h1, h2, h3, ?_, h5⟩
        rw [← hz5d]
        exact (h4.next q3).set h6.1 h6.2 _ _
      have HO2 : Hid (okW = true → sD = sW ∧ mD = nW ∧ eD = 0 ∧ ∃ gC C, qD = some ⟨gC, 0, none⟩ ∧ nW ≤ kD ∧ C.length = nW ∧ Pc z5d gC 0 c d C ∧ C.map PL.S = AW.map (cutL a X Y c d)) := fun h => by
        obtain ⟨e1, e2, e3, gC, C, h1, h2, h3, h4, h5⟩ := hok h
        refine ⟨e1, e2, e3, gC, C, h1, h2, h3, ?_, h5⟩
        rw [← hz5d]
        have ap := h4.apart (B := B23) hv3
        exact h4.pc.set ap.1 ap.2 _ _
      clear q3 hok b21 b23 hv3
      have b21 := b21n
      have b23 := b23n
      clear b21n b23n
      replace p0 := HU.out.cell Hp0.out
      replace p1 := HU.out.cell Hp1.out
      replace k0 := HU.out.cell Hk0.out
      replace k1 := HU.out.cell Hk1.out
      replace k2 := HU.out.cell Hk2.out
      replace k3 := HU.out.cell Hk3.out
      replace X0 := HU.out.cell HXa.out
      replace X1 := HU.out.cell HXb.out
      replace Y0 := HU.out.cell HYa.out
      replace Y1 := HU.out.cell HYb.out
      replace r0 := HU.out.cell Hr0.out
      replace r1 := HU.out.cell Hr1.out
      replace m0 := HU.out.cell Hm0.out
      replace m1 := HU.out.cell Hm1.out
      replace m2 := HU.out.cell Hm2.out
      replace m3 := HU.out.cell Hm3.out
      replace m4 := HU.out.cell Hm4.out
      replace m5 := HU.out.cell Hm5.out
      replace m6 := HU.out.cell Hm6.out
      replace m7 := HU.out.cell Hm7.out
      replace m8 := HU.out.cell Hm8.out
      have c0 := b21.out.c0
      have c1 := b21.out.c1
      have d0 := b23.out.c0
      have d1 := b23.out.c1
      rcases HEW.out with ⟨hok, he⟩ | ⟨hok, he⟩
      · subst hok he
        obtain ⟨gC, C, rfl, i1, i2, i3, i4⟩ := HO1.out rfl
        obtain ⟨rfl, rfl, rfl, gD, D, rfl, j1, j2, j3, j4⟩ := HO2.out rfl
        have HZ := HPC.out z5d sD gC kC mD gD kD C D i3 i2 i1 j3 j1 (by rw [j4, i4])
        have HZ : Hid _ := HZ
        clear i1 i2 i3 i4 j1 j2 j3 j4 HO1 HO2
        go_wp2_with (go_at_call 5; refine (l1 _ _).mono ?_; rintro e w1 ⟨rfl, hw⟩; obtain rfl := hw.symm)
        refine Calls.mono HZ.out ?_
        rintro e y ⟨rfl, q⟩
        have HEND : Hid (Q w y) := HQ7.out.trans (HU.out.trans q)
        clear q
        go_wp2_with (go_at_call 5; refine (l1 _ _).mono ?_; rintro e w1 ⟨rfl, hw⟩; obtain rfl := hw.symm)
        go_ret
        exact ⟨rfl, HEND.out⟩
      · subst hok
        have t2 : (eW != 0) = true := by rw [bne_iff_ne]; exact he
        clear he HO1 HO2
        have HEND : Hid (Q w z5d) := HQ7.out.trans HU.out
        go_wp2_with (go_at_call 5; refine (l1 _ _).mono ?_; rintro e w1 ⟨rfl, hw⟩; obtain rfl := hw.symm)
        go_ret
        exact ⟨rfl, HEND.out⟩
    · subst hok
      have t2 : (eM == 0) = false := by rw [beq_eq_false_iff_ne]; exact he
      clear he HO1 HO2
      go_wp2_with (go_at_call 5; refine (l1 _ _).mono ?_; rintro e w1 ⟨rfl, hw⟩; obtain rfl := hw.symm)
      clear hz3d z0 z1 z2 z3 c0 c1 d0 d1 t2
      refine (HW1.out z3d HU.out).mono ?_
      rintro e z6a ⟨qC, kC, rfl, q1, hok⟩
      obtain ⟨z6b, hz6b⟩ : ∃ y, (z6a.setCell ⟨B21, 0, none⟩ (.int .i64 sW)).setCell ⟨B21, 1, none⟩ (.slice qC nW kC) = y := ⟨_, rfl⟩
      have hv3 : B23 < z3d.heap.size := World.block_lt_of_cell? z3d ⟨B23, 0, none⟩ b23.out.c0
      have z0 := (b21.out.next q1).c0
      have z1 := (b21.out.next q1).c1
      have z2 := (b21.out.next q1).fz 0
      have z3 := (b21.out.next q1).fz 1
      have b21n : Hid (Bx z6b B21 (.int .i64 sW) (.slice qC nW kC)) := by show Bx _ _ _ _; rw [← hz6b]; exact (b21.out.next q1).set _ _
      have b23n := (b23.out.next q1).other (C := B21) (by have := HL.out.2; omega) (.int .i64 sW) (.slice qC nW kC)
      rw [hz6b] at b23n
      have b23n : Hid _ := b23n
      replace HU : Hid (Q w7 z6b) := by show Q _ _; rw [← hz6b]; exact ((HU.out.trans q1).set HL.out.1 _).set HL.out.1 _
      have HO1 : Hid (okW = true → ∃ gC C, qC = some ⟨gC, 0, none⟩ ∧ nW ≤ kC ∧ C.length = nW ∧ Pc z6b gC 0 a b C ∧ (gC ≠ B23 ∧ ∀ x ∈ C, x.g ≠ B23) ∧ C.map PL.S = AW) := fun h => by
        obtain ⟨gC, C, h1, h2, h3, h4, h5⟩ := hok h
        refine ⟨gC, C, h1, h2, h3, ?_, h4.apart hv3, h5⟩
        rw [← hz6b]
        have ap := h4.apart (B := B21) (by have := HL.out.2; omega)
        exact h4.pc.set ap.1 ap.2 _ _
      clear q1 hok b21 b23 hv3
      have b21 := b21n
      have b23 := b23n
      clear b21n b23n
      replace p0 := HU.out.cell Hp0.out
      replace p1 := HU.out.cell Hp1.out
      replace k0 := HU.out.cell Hk0.out
      replace k1 := HU.out.cell Hk1.out
      replace k2 := HU.out.cell Hk2.out
      replace k3 := HU.out.cell Hk3.out
      replace X0 := HU.out.cell HXa.out
      replace X1 := HU.out.cell HXb.out
      replace Y0 := HU.out.cell HYa.out
      replace Y1 := HU.out.cell HYb.out
      replace r0 := HU.out.cell Hr0.out
      replace r1 := HU.out.cell Hr1.out
      replace m0 := HU.out.cell Hm0.out
      replace m1 := HU.out.cell Hm1.out
      replace m2 := HU.out.cell Hm2.out
      replace m3 := HU.out.cell Hm3.out
      replace m4 := HU.out.cell Hm4.out
      replace m5 := HU.out.cell Hm5.out
      replace m6 := HU.out.cell Hm6.out
      replace m7 := HU.out.cell Hm7.out
      replace m8 := HU.out.cell Hm8.out
      go_wp2_with (go_at_call 5; refine (l1 _ _).mono ?_; rintro e w1 ⟨rfl, hw⟩; obtain rfl := hw.symm)
      clear hz6b z0 z1 z2 z3
      refine (HW2.out z6b HU.out).mono ?_
      rintro e z6c ⟨sD, qD, mD, kD, eD, rfl, q3, hok⟩
      obtain ⟨z6d, hz6d⟩ : ∃ y, (z6c.setCell ⟨B23, 0, none⟩ (.int .i64 sD)).setCell ⟨B23, 1, none⟩ (.slice qD mD kD) = y := ⟨_, rfl⟩
      have hv3 : B23 < z6b.heap.size := World.block_lt_of_cell? z6b ⟨B23, 0, none⟩ b23.out.c0
      have z0 := (b23.out.next q3).c0
      have z1 := (b23.out.next q3).c1
      have z2 := (b23.out.next q3).fz 0
      have z3 := (b23.out.next q3).fz 1
      have b23n : Hid (Bx z6d B23 (.int .i64 sD) (.slice qD mD kD)) := by show Bx _ _ _ _; rw [← hz6d]; exact (b23.out.next q3).set _ _
      have b21n : Hid (Bx z6d B21 (.int .i64 sW) (.slice qC nW kC)) := by show Bx _ _ _ _; rw [← hz6d]; exact (b21.out.next q3).other (by have := HL.out.2; omega) _ _
      replace HU : Hid (Q w7 z6d) := by show Q _ _; rw [← hz6d]; exact ((HU.out.trans q3).set (by have := HL.out; show _ ≤ B23; omega) _).set (by have := HL.out; show _ ≤ B23; omega) _
      replace HO1 : Hid (okW = true → ∃ gC C, qC = some ⟨gC, 0, none⟩ ∧ nW ≤ kC ∧ C.length = nW ∧ Pc z6d gC 0 a b C ∧ C.map PL.S = AW) := fun h => by
        obtain ⟨gC, C, h1, h2, h3, h4, h6, h5⟩ := HO1.out h
        refine ⟨gC, C, h1, h2, h3, ?_, h5⟩
        rw [← hz6d]
        exact (h4.next q3).set h6.1 h6.2 _ _
      have HO2 : Hid (okW = true → sD = sW ∧ mD = nW ∧ eD = 0 ∧ ∃ gC C, qD = some ⟨gC, 0, none⟩ ∧ nW ≤ kD ∧ C.length = nW ∧ Pc z6d gC 0 c d C ∧ C.map PL.S = AW.map (cutL a X Y c d)) := fun h => by
        obtain ⟨e1, e2, e3, gC, C, h1, h2, h3, h4, h5⟩ := hok h
        refine ⟨e1, e2, e3, gC, C, h1, h2, h3, ?_, h5⟩
        rw [← hz6d]
        have ap := h4.apart (B := B23) hv3
        exact h4.pc.set ap.1 ap.2 _ _
      clear q3 hok b21 b23 hv3
      have b21 := b21n
      have b23 := b23n
      clear b21n b23n
      replace p0 := HU.out.cell Hp0.out
      replace p1 := HU.out.cell Hp1.out
      replace k0 := HU.out.cell Hk0.out
      replace k1 := HU.out.cell Hk1.out
      replace k2 := HU.out.cell Hk2.out
      replace k3 := HU.out.cell Hk3.out
      replace X0 := HU.out.cell HXa.out
      replace X1 := HU.out.cell HXb.out
      replace Y0 := HU.out.cell HYa.out
      replace Y1 := HU.out.cell HYb.out
      replace r0 := HU.out.cell Hr0.out
      replace r1 := HU.out.cell Hr1.out
      replace m0 := HU.out.cell Hm0.out
      replace m1 := HU.out.cell Hm1.out
      replace m2 := HU.out.cell Hm2.out
      replace m3 := HU.out.cell Hm3.out
      replace m4 := HU.out.cell Hm4.out
      replace m5 := HU.out.cell Hm5.out
      replace m6 := HU.out.cell Hm6.out
      replace m7 := HU.out.cell Hm7.out
      replace m8 := HU.out.cell Hm8.out
      have c0 := b21.out.c0
      have c1 := b21.out.c1
      have d0 := b23.out.c0
      have d1 := b23.out.c1
      rcases HEW.out with ⟨hok, he⟩ | ⟨hok, he⟩
      · subst hok he
        obtain ⟨gC, C, rfl, i1, i2, i3, i4⟩ := HO1.out rfl
        obtain ⟨rfl, rfl, rfl, gD, D, rfl, j1, j2, j3, j4⟩ := HO2.out rfl
        have HZ := HPC.out z6d sD gC kC mD gD kD C D i3 i2 i1 j3 j1 (by rw [j4, i4])
        have HZ : Hid _ := HZ
        clear i1 i2 i3 i4 j1 j2 j3 j4 HO1 HO2
        go_wp2_with (go_at_call 5; refine (l1 _ _).mono ?_; rintro e w1 ⟨rfl, hw⟩; obtain rfl := hw.symm)
        refine Calls.mono HZ.out ?_
        rintro e y ⟨rfl, q⟩
        have HEND : Hid (Q w y) := HQ7.out.trans (HU.out.trans q)
        clear q
        go_wp2_with (go_at_call 5; refine (l1 _ _).mono ?_; rintro e w1 ⟨rfl, hw⟩; obtain rfl := hw.symm)
        go_ret
        exact ⟨rfl, HEND.out⟩
      · subst hok
        have t2 : (eW != 0) = true := by rw [bne_iff_ne]; exact he
        clear he HO1 HO2
        have HEND : Hid (Q w z6d) := HQ7.out.trans HU.out
        go_wp2_with (go_at_call 5; refine (l1 _ _).mono ?_; rintro e w1 ⟨rfl, hw⟩; obtain rfl := hw.symm)
        go_ret
        exact ⟨rfl, HEND.out⟩
  · subst hok
    have t2 : (eC == 0) = false := by rw [beq_eq_false_iff_ne]; exact he
    clear he HO1 HO2
    go_wp2_with (go_at_call 5; refine (l1 _ _).mono ?_; rintro e w1 ⟨rfl, hw⟩; obtain rfl := hw.symm)
    generalize u3.heap.size = B23 at *
    clear hu4 c0 c1 d0 d1 t2
    refine (HF1.out u4 HU.out).mono ?_
    rintro e z7a ⟨qC, kC, rfl, q1, hok⟩
    obtain ⟨z7b, hz7b⟩ : ∃ y, (z7a.setCell ⟨B21, 0, none⟩ (.int .i64 sp)).setCell ⟨B21, 1, none⟩ (.slice qC n kC) = y := ⟨_, rfl⟩
    have hv3 : B23 < u4.heap.size := World.block_lt_of_cell? u4 ⟨B23, 0, none⟩ b23.out.c0
    have z0 := (b21.out.next q1).c0
    have z1 := (b21.out.next q1).c1
    have z2 := (b21.out.next q1).fz 0
    have z3 := (b21.out.next q1).fz 1
    have b21n : Hid (Bx z7b B21 (.int .i64 sp) (.slice qC n kC)) := by show Bx _ _ _ _; rw [← hz7b]; exact (b21.out.next q1).set _ _
    have b23n := (b23.out.next q1).other (C := B21) (by have := HL.out.2; omega) (.int .i64 sp) (.slice qC n kC)
    rw [hz7b] at b23n
    have b23n : Hid _ := b23n
    replace HU : Hid (Q w7 z7b) := by show Q _ _; rw [← hz7b]; exact ((HU.out.trans q1).set HL.out.1 _).set HL.out.1 _
    have HO1 : Hid (okF = true → ∃ gC C, qC = some ⟨gC, 0, none⟩ ∧ n ≤ kC ∧ C.length = n ∧ Pc z7b gC 0 a b C ∧ (gC ≠ B23 ∧ ∀ x ∈ C, x.g ≠ B23) ∧ C.map PL.S = (chgL (affineV A B) (-1) 0) (L.map PL.S)) := fun h => by
      obtain ⟨gC, C, h1, h2, h3, h4, h5⟩ := hok h
      refine ⟨gC, C, h1, h2, h3, ?_, h4.apart hv3, h5⟩
      rw [← hz7b]
      have ap := h4.apart (B := B21) (by have := HL.out.2; omega)
      exact h4.pc.set ap.1 ap.2 _ _
    clear q1 hok b21 b23 hv3
    have b21 := b21n
    have b23 := b23n
    clear b21n b23n
    replace p0 := HU.out.cell Hp0.out
    replace p1 := HU.out.cell Hp1.out
    replace k0 := HU.out.cell Hk0.out
    replace k1 := HU.out.cell Hk1.out
    replace k2 := HU.out.cell Hk2.out
    replace k3 := HU.out.cell Hk3.out
    replace X0 := HU.out.cell HXa.out
    replace X1 := HU.out.cell HXb.out
    replace Y0 := HU.out.cell HYa.out
    replace Y1 := HU.out.cell HYb.out
    replace r0 := HU.out.cell Hr0.out
    replace r1 := HU.out.cell Hr1.out
    replace m0 := HU.out.cell Hm0.out
    replace m1 := HU.out.cell Hm1.out
    replace m2 := HU.out.cell Hm2.out
    replace m3 := HU.out.cell Hm3.out
    replace m4 := HU.out.cell Hm4.out
    replace m5 := HU.out.cell Hm5.out
    replace m6 := HU.out.cell Hm6.out
    replace m7 := HU.out.cell Hm7.out
    replace m8 := HU.out.cell Hm8.out
    go_wp2_with (go_at_call 5; refine (l1 _ _).mono ?_; rintro e w1 ⟨rfl, hw⟩; obtain rfl := hw.symm)
    clear hz7b z0 z1 z2 z3
    refine (HF2.out z7b HU.out).mono ?_
    rintro e z7c ⟨qD, kD, rfl, q3, hok⟩
    obtain ⟨z7d, hz7d⟩ : ∃ y, (z7c.setCell ⟨B23, 0, none⟩ (.int .i64 sp)).setCell ⟨B23, 1, none⟩ (.slice qD n kD) = y := ⟨_, rfl⟩
    have hv3 : B23 < z7b.heap.size := World.block_lt_of_cell? z7b ⟨B23, 0, none⟩ b23.out.c0
    have z0 := (b23.out.next q3).c0
    have z1 := (b23.out.next q3).c1
    have z2 := (b23.out.next q3).fz 0
    have z3 := (b23.out.next q3).fz 1
    have b23n : Hid (Bx z7d B23 (.int .i64 sp) (.slice qD n kD)) := by show Bx _ _ _ _; rw [← hz7d]; exact (b23.out.next q3).set _ _
    have b21n : Hid (Bx z7d B21 (.int .i64 sp) (.slice qC n kC)) := by show Bx _ _ _ _; rw [← hz7d]; exact (b21.out.next q3).other (by have := HL.out.2; omega) _ _
    replace HU : Hid (Q w7 z7d) := by show Q _ _; rw [← hz7d]; exact ((HU.out.trans q3).set (by have := HL.out; show _ ≤ B23; omega) _).set (by have := HL.out; show _ ≤ B23; omega) _
    replace HO1 : Hid (okF = true → ∃ gC C, qC = some ⟨gC, 0, none⟩ ∧ n ≤ kC ∧ C.length = n ∧ Pc z7d gC 0 a b C ∧ C.map PL.S = (chgL (affineV A B) (-1) 0) (L.map PL.S)) := fun h => by
      obtain ⟨gC, C, h1, h2, h3, h4, h6, h5⟩ := HO1.out h
      refine ⟨gC, C, h1, h2, h3, ?_, h5⟩
      rw [← hz7d]
      exact (h4.next q3).set h6.1 h6.2 _ _
    have HO2 : Hid (okF = true → ∃ gC C, qD = some ⟨gC, 0, none⟩ ∧ n ≤ kD ∧ C.length = n ∧ Pc z7d gC 0 c d C ∧ C.map PL.S = (chgL (affineV A B) (-1) 0) (MX.map PL.S)) := fun h => by
      obtain ⟨gC, C, h1, h2, h3, h4, h5⟩ := hok h
      refine ⟨gC, C, h1, h2, h3, ?_, h5⟩
      rw [← hz7d]
      have ap := h4.apart (B := B23) hv3
      exact h4.pc.set ap.1 ap.2 _ _
    clear q3 hok b21 b23 hv3
    have b21 := b21n
    have b23 := b23n
    clear b21n b23n
    replace p0 := HU.out.cell Hp0.out
    replace p1 := HU.out.cell Hp1.out
    replace k0 := HU.out.cell Hk0.out
    replace k1 := HU.out.cell Hk1.out
    replace k2 := HU.out.cell Hk2.out
    replace k3 := HU.out.cell Hk3.out
    replace X0 := HU.out.cell HXa.out
    replace X1 := HU.out.cell HXb.out
    replace Y0 := HU.out.cell HYa.out
    replace Y1 := HU.out.cell HYb.out
    replace r0 := HU.out.cell Hr0.out
    replace r1 := HU.out.cell Hr1.out
    replace m0 := HU.out.cell Hm0.out
    replace m1 := HU.out.cell Hm1.out
    replace m2 := HU.out.cell Hm2.out
    replace m3 := HU.out.cell Hm3.out
    replace m4 := HU.out.cell Hm4.out
    replace m5 := HU.out.cell Hm5.out
    replace m6 := HU.out.cell Hm6.out
    replace m7 := HU.out.cell Hm7.out
    replace m8 := HU.out.cell Hm8.out
    have c0 := b21.out.c0
    have c1 := b21.out.c1
    have d0 := b23.out.c0
    have d1 := b23.out.c1
    obtain ⟨gC, C, rfl, i1, i2, i3, i4⟩ := HO1.out HF0.out
    obtain ⟨gD, D, rfl, j1, j2, j3, j4⟩ := HO2.out HF0.out
    have HZ := HPC.out z7d sp gC kC n gD kD C D i3 i2 i1 j3 j1 (by rw [j4, HKF.out, i4])
    have HZ : Hid _ := HZ
    clear i1 i2 i3 i4 j1 j2 j3 j4 HO1 HO2
    go_wp2_with (go_at_call 5; refine (l1 _ _).mono ?_; rintro e w1 ⟨rfl, hw⟩; obtain rfl := hw.symm)
    clear hz7d z0 z1 z2 z3
    refine Calls.mono HZ.out ?_
    rintro e y8 ⟨rfl, q⟩
    replace HU : Hid (Q w7 y8) := HU.out.trans q
    replace b21 : Hid (Bx y8 B21 (.int .i64 sp) (.slice (some ⟨gC, 0, none⟩) n kC)) := b21.out.next q
    replace b23 : Hid (Bx y8 B23 (.int .i64 sp) (.slice (some ⟨gD, 0, none⟩) n kD)) := b23.out.next q
    clear q HZ c0 c1 d0 d1
    replace p0 := HU.out.cell Hp0.out
    replace p1 := HU.out.cell Hp1.out
    replace k0 := HU.out.cell Hk0.out
    replace k1 := HU.out.cell Hk1.out
    replace k2 := HU.out.cell Hk2.out
    replace k3 := HU.out.cell Hk3.out
    replace X0 := HU.out.cell HXa.out
    replace X1 := HU.out.cell HXb.out
    replace Y0 := HU.out.cell HYa.out
    replace Y1 := HU.out.cell HYb.out
    replace r0 := HU.out.cell Hr0.out
    replace r1 := HU.out.cell Hr1.out
    replace m0 := HU.out.cell Hm0.out
    replace m1 := HU.out.cell Hm1.out
    replace m2 := HU.out.cell Hm2.out
    replace m3 := HU.out.cell Hm3.out
    replace m4 := HU.out.cell Hm4.out
    replace m5 := HU.out.cell Hm5.out
    replace m6 := HU.out.cell Hm6.out
    replace m7 := HU.out.cell Hm7.out
    replace m8 := HU.out.cell Hm8.out
    go_wp2_with (go_at_call 5; refine (l1 _ _).mono ?_; rintro e w1 ⟨rfl, hw⟩; obtain rfl := hw.symm)
    refine (HM1.out y8 HU.out).mono ?_
    rintro e z9a ⟨qC, kC, rfl, q1, hok⟩
    obtain ⟨z9b, hz9b⟩ : ∃ y, (z9a.setCell ⟨B21, 0, none⟩ (.int .i64 sM)).setCell ⟨B21, 1, none⟩ (.slice qC nM kC) = y := ⟨_, rfl⟩
    have hv3 : B23 < y8.heap.size := World.block_lt_of_cell? y8 ⟨B23, 0, none⟩ b23.out.c0
    have z0 := (b21.out.next q1).c0
    have z1 := (b21.out.next q1).c1
    have z2 := (b21.out.next q1).fz 0
    have z3 := (b21.out.next q1).fz 1
    have b21n : Hid (Bx z9b B21 (.int .i64 sM) (.slice qC nM kC)) := by show Bx _ _ _ _; rw [← hz9b]; exact (b21.out.next q1).set _ _
    have b23n := (b23.out.next q1).other (C := B21) (by have := HL.out.2; omega) (.int .i64 sM) (.slice qC nM kC)
    rw [hz9b] at b23n
    have b23n : Hid _ := b23n
    replace HU : Hid (Q w7 z9b) := by show Q _ _; rw [← hz9b]; exact ((HU.out.trans q1).set HL.out.1 _).set HL.out.1 _
    have HO1 : Hid (okM = true → ∃ gC C, qC = some ⟨gC, 0, none⟩ ∧ nM ≤ kC ∧ C.length = nM ∧ Pc z9b gC 0 a b C ∧ (gC ≠ B23 ∧ ∀ x ∈ C, x.g ≠ B23) ∧ C.map PL.S = TM (L.map PL.S)) := fun h => by
      obtain ⟨gC, C, h1, h2, h3, h4, h5⟩ := hok h
      refine ⟨gC, C, h1, h2, h3, ?_, h4.apart hv3, h5⟩
      rw [← hz9b]
      have ap := h4.apart (B := B21) (by have := HL.out.2; omega)
      exact h4.pc.set ap.1 ap.2 _ _
    clear q1 hok b21 b23 hv3
    have b21 := b21n
    have b23 := b23n
    clear b21n b23n
    replace p0 := HU.out.cell Hp0.out
    replace p1 := HU.out.cell Hp1.out
    replace k0 := HU.out.cell Hk0.out
    replace k1 := HU.out.cell Hk1.out
    replace k2 := HU.out.cell Hk2.out
    replace k3 := HU.out.cell Hk3.out
    replace X0 := HU.out.cell HXa.out
    replace X1 := HU.out.cell HXb.out
    replace Y0 := HU.out.cell HYa.out
    replace Y1 := HU.out.cell HYb.out
    replace r0 := HU.out.cell Hr0.out
    replace r1 := HU.out.cell Hr1.out
    replace m0 := HU.out.cell Hm0.out
    replace m1 := HU.out.cell Hm1.out
    replace m2 := HU.out.cell Hm2.out
    replace m3 := HU.out.cell Hm3.out
    replace m4 := HU.out.cell Hm4.out
    replace m5 := HU.out.cell Hm5.out
    replace m6 := HU.out.cell Hm6.out
    replace m7 := HU.out.cell Hm7.out
    replace m8 := HU.out.cell Hm8.out
    go_wp2_with (go_at_call 5; refine (l1 _ _).mono ?_; rintro e w1 ⟨rfl, hw⟩; obtain rfl := hw.symm)
    clear hz9b z0 z1 z2 z3
    refine (HM2.out z9b HU.out).mono ?_
    rintro e z9c ⟨qD, kD, rfl, q3, hok⟩
    obtain ⟨z9d, hz9d⟩ : ∃ y, (z9c.setCell ⟨B23, 0, none⟩ (.int .i64 sM)).setCell ⟨B23, 1, none⟩ (.slice qD nM kD) = y := ⟨_, rfl⟩
    have hv3 : B23 < z9b.heap.size := World.block_lt_of_cell? z9b ⟨B23, 0, none⟩ b23.out.c0
    have z0 := (b23.out.next q3).c0
    have z1 := (b23.out.next q3).c1
    have z2 := (b23.out.next q3).fz 0
    have z3 := (b23.out.next q3).fz 1
    have b23n : Hid (Bx z9d B23 (.int .i64 sM) (.slice qD nM kD)) := by show Bx _ _ _ _; rw [← hz9d]; exact (b23.out.next q3).set _ _
    have b21n : Hid (Bx z9d B21 (.int .i64 sM) (.slice qC nM kC)) := by show Bx _ _ _ _; rw [← hz9d]; exact (b21.out.next q3).other (by have := HL.out.2; omega) _ _
    replace HU : Hid (Q w7 z9d) := by show Q _ _; rw [← hz9d]; exact ((HU.out.trans q3).set (by have := HL.out; show _ ≤ B23; omega) _).set (by have := HL.out; show _ ≤ B23; omega) _
    replace HO1 : Hid (okM = true → ∃ gC C, qC = some ⟨gC, 0, none⟩ ∧ nM ≤ kC ∧ C.length = nM ∧ Pc z9d gC 0 a b C ∧ C.map PL.S = TM (L.map PL.S)) := fun h => by
      obtain ⟨gC, C, h1, h2, h3, h4, h6, h5⟩ := HO1.out h
      refine ⟨gC, C, h1, h2, h3, ?_, h5⟩
      rw [← hz9d]
      exact (h4.next q3).set h6.1 h6.2 _ _
    have HO2 : Hid (okM = true → ∃ gC C, qD = some ⟨gC, 0, none⟩ ∧ nM ≤ kD ∧ C.length = nM ∧ Pc z9d gC 0 c d C ∧ C.map PL.S = TM (MX.map PL.S)) := fun h => by
      obtain ⟨gC, C, h1, h2, h3, h4, h5⟩ := hok h
      refine ⟨gC, C, h1, h2, h3, ?_, h5⟩
      rw [← hz9d]
      have ap := h4.apart (B := B23) hv3
      exact h4.pc.set ap.1 ap.2 _ _
    clear q3 hok b21 b23 hv3
    have b21 := b21n
    have b23 := b23n
    clear b21n b23n
    replace p0 := HU.out.cell Hp0.out
    replace p1 := HU.out.cell Hp1.out
    replace k0 := HU.out.cell Hk0.out
    replace k1 := HU.out.cell Hk1.out
    replace k2 := HU.out.cell Hk2.out
    replace k3 := HU.out.cell Hk3.out
    replace X0 := HU.out.cell HXa.out
    replace X1 := HU.out.cell HXb.out
    replace Y0 := HU.out.cell HYa.out
    replace Y1 := HU.out.cell HYb.out
    replace r0 := HU.out.cell Hr0.out
    replace r1 := HU.out.cell Hr1.out
    replace m0 := HU.out.cell Hm0.out
    replace m1 := HU.out.cell Hm1.out
    replace m2 := HU.out.cell Hm2.out
    replace m3 := HU.out.cell Hm3.out
    replace m4 := HU.out.cell Hm4.out
    replace m5 := HU.out.cell Hm5.out
    replace m6 := HU.out.cell Hm6.out
    replace m7 := HU.out.cell Hm7.out
    replace m8 := HU.out.cell Hm8.out
    have c0 := b21.out.c0
    have c1 := b21.out.c1
    have d0 := b23.out.c0
    have d1 := b23.out.c1
    have t1 : (eM != eM) = false := by simp
    rcases HEM.out with ⟨hok, he⟩ | ⟨hok, he⟩
    · subst hok he
      obtain ⟨gC, C, rfl, i1, i2, i3, i4⟩ := HO1.out rfl
      obtain ⟨gD, D, rfl, j1, j2, j3, j4⟩ := HO2.out rfl
      have HZ := HPC.out z9d sM gC kC nM gD kD C D i3 i2 i1 j3 j1 (by rw [j4, HKM.out, i4])
      have HZ : Hid _ := HZ
      clear i1 i2 i3 i4 j1 j2 j3 j4 HO1 HO2
      go_wp2_with (go_at_call 5; refine (l1 _ _).mono ?_; rintro e w1 ⟨rfl, hw⟩; obtain rfl := hw.symm)
      clear hz9d z0 z1 z2 z3
      refine Calls.mono HZ.out ?_
      rintro e y10 ⟨rfl, q⟩
      replace HU : Hid (Q w7 y10) := HU.out.trans q
      replace b21 : Hid (Bx y10 B21 (.int .i64 sM) (.slice (some ⟨gC, 0, none⟩) nM kC)) := b21.out.next q
      replace b23 : Hid (Bx y10 B23 (.int .i64 sM) (.slice (some ⟨gD, 0, none⟩) nM kD)) := b23.out.next q
      clear q HZ c0 c1 d0 d1
      replace p0 := HU.out.cell Hp0.out
      replace p1 := HU.out.cell Hp1.out
      replace k0 := HU.out.cell Hk0.out
      replace k1 := HU.out.cell Hk1.out
      replace k2 := HU.out.cell Hk2.out
      replace k3 := HU.out.cell Hk3.out
      replace X0 := HU.out.cell HXa.out
      replace X1 := HU.out.cell HXb.out
      replace Y0 := HU.out.cell HYa.out
      replace Y1 := HU.out.cell HYb.out
      replace r0 := HU.out.cell Hr0.out
      replace r1 := HU.out.cell Hr1.out
      replace m0 := HU.out.cell Hm0.out
      replace m1 := HU.out.cell Hm1.out
      replace m2 := HU.out.cell Hm2.out
      replace m3 := HU.out.cell Hm3.out
      replace m4 := HU.out.cell Hm4.out
      replace m5 := HU.out.cell Hm5.out
      replace m6 := HU.out.cell Hm6.out
      replace m7 := HU.out.cell Hm7.out
      replace m8 := HU.out.cell Hm8.out
      go_wp2_with (go_at_call 5; refine (l1 _ _).mono ?_; rintro e w1 ⟨rfl, hw⟩; obtain rfl := hw.symm)
      refine (HW1.out y10 HU.out).mono ?_
      rintro e z11a ⟨qC, kC, rfl, q1, hok⟩
      obtain ⟨z11b, hz11b⟩ : ∃ y, (z11a.setCell ⟨B21, 0, none⟩ (.int .i64 sW)).setCell ⟨B21, 1, none⟩ (.slice qC nW kC) = y := ⟨_, rfl⟩
      have hv3 : B23 < y10.heap.size := World.block_lt_of_cell? y10 ⟨B23, 0, none⟩ b23.out.c0
      have z0 := (b21.out.next q1).c0
      have z1 := (b21.out.next q1).c1
      have z2 := (b21.out.next q1).fz 0
      have z3 := (b21.out.next q1).fz 1
      have b21n : Hid (Bx z11b B21 (.int .i64 sW) (.slice qC nW kC)) := by show Bx _ _ _ _; rw [← hz11b]; exact (b21.out.next q1).set _ _
      have b23n := (b23.out.next q1).other (C := B21) (by have := HL.out.2; omega) (.int .i64 sW) (.slice qC nW kC)
      rw [hz11b] at b23n
      have b23n : Hid _ := b23n
      replace HU : Hid (Q w7 z11b) := by show Q _ _; rw [← hz11b]; exact ((HU.out.trans q1).set HL.out.1 _).set HL.out.1 _
      have HO1 : Hid (okW = true → ∃ gC C, qC = some ⟨gC, 0, none⟩ ∧ nW ≤ kC ∧ C.length = nW ∧ Pc z11b gC 0 a b C ∧ (gC ≠ B23 ∧ ∀ x ∈ C, x.g ≠ B23) ∧ C.map PL.S = AW) := fun h => by
        obtain ⟨gC, C, h1, h2, h3, h4, h5⟩ := hok h
        refine ⟨gC, C, h1, h2, h3, ?_, h4.apart hv3, h5⟩
        rw [← hz11b]
        have ap := h4.apart (B := B21) (by have := HL.out.2; omega)
        exact h4.pc.set ap.1 ap.2 _ _
      clear q1 hok b21 b23 hv3
      have b21 := b21n
      have b23 := b23n
      clear b21n b23n
      replace p0 := HU.out.cell Hp0.out
      replace p1 := HU.out.cell Hp1.out
      replace k0 := HU.out.cell Hk0.out
      replace k1 := HU.out.cell Hk1.out
      replace k2 := HU.out.cell Hk2.out
      replace k3 := HU.out.cell Hk3.out
      replace X0 := HU.out.cell HXa.out
      replace X1 := HU.out.cell HXb.out
      replace Y0 := HU.out.cell HYa.out
      replace Y1 := HU.out.cell HYb.out
      replace r0 := HU.out.cell Hr0.out
      replace r1 := HU.out.cell Hr1.out
      replace m0 := HU.out.cell Hm0.out
      replace m1 := HU.out.cell Hm1.out
      replace m2 := HU.out.cell Hm2.out
      replace m3 := HU.out.cell Hm3.out
      replace m4 := HU.out.cell Hm4.out
      replace m5 := HU.out.cell Hm5.out
      replace m6 := HU.out.cell Hm6.out
      replace m7 := HU.out.cell Hm7.out
      replace m8 := HU.out.cell Hm8.out
      go_wp2_with (go_at_call 5; refine (l1 _ _).mono ?_; rintro e w1 ⟨rfl, hw⟩; obtain rfl := hw.symm)
      clear hz11b z0 z1 z2 z3
      refine (HW2.out z11b HU.out).mono ?_
      rintro e z11c ⟨sD, qD, mD, kD, eD, rfl, q3, hok⟩
      obtain ⟨z11d, hz11d⟩ : ∃ y, (z11c.setCell ⟨B23, 0, none⟩ (.int .i64 sD)).setCell ⟨B23, 1, none⟩ (.slice qD mD kD) = y := ⟨_, rfl⟩
      have hv3 : B23 < z11b.heap.size := World.block_lt_of_cell? z11b ⟨B23, 0, none⟩ b23.out.c0
      have z0 := (b23.out.next q3).c0
      have z1 := (b23.out.next q3).c1
      have z2 := (b23.out.next q3).fz 0
      have z3 := (b23.out.next q3).fz 1
      have b23n : Hid (Bx z11d B23 (.int .i64 sD) (.slice qD mD kD)) := by show Bx _ _ _ _; rw [← hz11d]; exact (b23.out.next q3).set _ _
      have b21n : Hid (Bx z11d B21 (.int .i64 sW) (.slice qC nW kC)) := by show Bx _ _ _ _; rw [← hz11d]; exact (b21.out.next q3).other (by have := HL.out.2; omega) _ _
      replace HU : Hid (Q w7 z11d) := by show Q _ _; rw [← hz11d]; exact ((HU.out.trans q3).set (by have := HL.out; show _ ≤ B23; omega) _).set (by have := HL.out; show _ ≤ B23; omega) _
      replace HO1 : Hid (okW = true → ∃ gC C, qC = some ⟨gC, 0, none⟩ ∧ nW ≤ kC ∧ C.length = nW ∧ Pc z11d gC 0 a b C ∧ C.map PL.S = AW) := fun h => by
        obtain ⟨gC, C, h1, h2, h3, h4, h6, h5⟩ := HO1.out h
        refine ⟨gC, C, h1, h2, h3, ?_, h5⟩
        rw [← hz11d]
        exact (h4.next q3).set h6.1 h6.2 _ _
      have HO2 : Hid (okW = true → sD = sW ∧ mD = nW ∧ eD = 0 ∧ ∃ gC C, qD = some ⟨gC, 0, none⟩ ∧ nW ≤ kD ∧ C.length = nW ∧ Pc z11d gC 0 c d C ∧ C.map PL.S = AW.map (cutL a X Y c d)) := fun h => by
        obtain ⟨e1, e2, e3, gC, C, h1, h2, h3, h4, h5⟩ := hok h
        refine ⟨e1, e2, e3, gC, C, h1, h2, h3, ?_, h5⟩
        rw [← hz11d]
        have ap := h4.apart (B := B23) hv3
        exact h4.pc.set ap.1 ap.2 _ _
      clear q3 hok b21 b23 hv3
      have b21 := b21n
      have b23 := b23n
      clear b21n b23n
      replace p0 := HU.out.cell Hp0.out
      replace p1 := HU.out.cell Hp1.out
      replace k0 := HU.out.cell Hk0.out
      replace k1 := HU.out.cell Hk1.out
      replace k2 := HU.out.cell Hk2.out
      replace k3 := HU.out.cell Hk3.out
      replace X0 := HU.out.cell HXa.out
      replace X1 := HU.out.cell HXb.out
      replace Y0 := HU.out.cell HYa.out
      replace Y1 := HU.out.cell HYb.out
      replace r0 := HU.out.cell Hr0.out
      replace r1 := HU.out.cell Hr1.out
      replace m0 := HU.out.cell Hm0.out
      replace m1 := HU.out.cell Hm1.out
      replace m2 := HU.out.cell Hm2.out
      replace m3 := HU.out.cell Hm3.out
      replace m4 := HU.out.cell Hm4.out
      replace m5 := HU.out.cell Hm5.out
      replace m6 := HU.out.cell Hm6.out
      replace m7 := HU.out.cell Hm7.out
      replace m8 := HU.out.cell Hm8.out
      have c0 := b21.out.c0
      have c1 := b21.out.c1
      have d0 := b23.out.c0
      have d1 := b23.out.c1
      rcases HEW.out with ⟨hok, he⟩ | ⟨hok, he⟩
      · subst hok he
        obtain ⟨gC, C, rfl, i1, i2, i3, i4⟩ := HO1.out rfl
        obtain ⟨rfl, rfl, rfl, gD, D, rfl, j1, j2, j3, j4⟩ := HO2.out rfl
        have HZ := HPC.out z11d sD gC kC mD gD kD C D i3 i2 i1 j3 j1 (by rw [j4, i4])
        have HZ : Hid _ := HZ
        clear i1 i2 i3 i4 j1 j2 j3 j4 HO1 HO2
        go_wp2_with (go_at_call 5; refine (l1 _ _).mono ?_; rintro e w1 ⟨rfl, hw⟩; obtain rfl := hw.symm)
        refine Calls.mono HZ.out ?_
        rintro e y ⟨rfl, q⟩
        have HEND : Hid (Q w y) := HQ7.out.trans (HU.out.trans q)
        clear q
        go_wp2_with (go_at_call 5; refine (l1 _ _).mono ?_; rintro e w1 ⟨rfl, hw⟩; obtain rfl := hw.symm)
        go_ret
        exact ⟨rfl, HEND.out⟩
      · subst hok
        have t2 : (eW != 0) = true := by rw [bne_iff_ne]; exact he
        clear he HO1 HO2
        have HEND : Hid (Q w z11d) := HQ7.out.trans HU.out
        go_wp2_with (go_at_call 5; refine (l1 _ _).mono ?_; rintro e w1 ⟨rfl, hw⟩; obtain rfl := hw.symm)
        go_ret
        exact ⟨rfl, HEND.out⟩
    · subst hok
      have t2 : (eM == 0) = false := by rw [beq_eq_false_iff_ne]; exact he
      clear he HO1 HO2
      go_wp2_with (go_at_call 5; refine (l1 _ _).mono ?_; rintro e w1 ⟨rfl, hw⟩; obtain rfl := hw.symm)
      clear hz9d z0 z1 z2 z3 c0 c1 d0 d1 t2
      refine (HW1.out z9d HU.out).mono ?_
      rintro e z12a ⟨qC, kC, rfl, q1, hok⟩
      obtain ⟨z12b, hz12b⟩ : ∃ y, (z12a.setCell ⟨B21, 0, none⟩ (.int .i64 sW)).setCell ⟨B21, 1, none⟩ (.slice qC nW kC) = y := ⟨_, rfl⟩
      have hv3 : B23 < z9d.heap.size := World.block_lt_of_cell? z9d ⟨B23, 0, none⟩ b23.out.c0
      have z0 := (b21.out.next q1).c0
      have z1 := (b21.out.next q1).c1
      have z2 := (b21.out.next q1).fz 0
      have z3 := (b21.out.next q1).fz 1
      have b21n : Hid (Bx z12b B21 (.int .i64 sW) (.slice qC nW kC)) := by show Bx _ _ _ _; rw [← hz12b]; exact (b21.out.next q1).set _ _
      have b23n := (b23.out.next q1).other (C := B21) (by have := HL.out.2; omega) (.int .i64 sW) (.slice qC nW kC)
      rw [hz12b] at b23n
      have b23n : Hid _ := b23n
      replace HU : Hid (Q w7 z12b) := by show Q _ _; rw [← hz12b]; exact ((HU.out.trans q1).set HL.out.1 _).set HL.out.1 _
      have HO1 : Hid (okW = true → ∃ gC C, qC = some ⟨gC, 0, none⟩ ∧ nW ≤ kC ∧ C.length = nW ∧ Pc z12b gC 0 a b C ∧ (gC ≠ B23 ∧ ∀ x ∈ C, x.g ≠ B23) ∧ C.map PL.S = AW) := fun h => by
        obtain ⟨gC, C, h1, h2, h3, h4, h5⟩ := hok h
        refine ⟨gC, C, h1, h2, h3, ?_, h4.apart hv3, h5⟩
        rw [← hz12b]
        have ap := h4.apart (B := B21) (by have := HL.out.2; omega)
        exact h4.pc.set ap.1 ap.2 _ _
      clear q1 hok b21 b23 hv3
      have b21 := b21n
      have b23 := b23n
      clear b21n b23n
      replace p0 := HU.out.cell Hp0.out
      replace p1 := HU.out.cell Hp1.out
      replace k0 := HU.out.cell Hk0.out
      replace k1 := HU.out.cell Hk1.out
      replace k2 := HU.out.cell Hk2.out
      replace k3 := HU.out.cell Hk3.out
      replace X0 := HU.out.cell HXa.out
      replace X1 := HU.out.cell HXb.out
      replace Y0 := HU.out.cell HYa.out
      replace Y1 := HU.out.cell HYb.out
      replace r0 := HU.out.cell Hr0.out
      replace r1 := HU.out.cell Hr1.out
      replace m0 := HU.out.cell Hm0.out
      replace m1 := HU.out.cell Hm1.out
      replace m2 := HU.out.cell Hm2.out
      replace m3 := HU.out.cell Hm3.out
      replace m4 := HU.out.cell Hm4.out
      replace m5 := HU.out.cell Hm5.out
      replace m6 := HU.out.cell Hm6.out
      replace m7 := HU.out.cell Hm7.out
      replace m8 := HU.out.cell Hm8.out
      go_wp2_with (go_at_call 5; refine (l1 _ _).mono ?_; rintro e w1 ⟨rfl, hw⟩; obtain rfl := hw.symm)
      clear hz12b z0 z1 z2 z3
      refine (HW2.out z12b HU.out).mono ?_
      rintro e z12c ⟨sD, qD, mD, kD, eD, rfl, q3, hok⟩
      obtain ⟨z12d, hz12d⟩ : ∃ y, (z12c.setCell ⟨B23, 0, none⟩ (.int .i64 sD)).setCell ⟨B23, 1, none⟩ (.slice qD mD kD) = y := ⟨_, rfl⟩
      have hv3 : B23 < z12b.heap.size := World.block_lt_of_cell? z12b ⟨B23, 0, none⟩ b23.out.c0
      have z0 := (b23.out.next q3).c0
      have z1 := (b23.out.next q3).c1
      have z2 := (b23.out.next q3).fz 0
      have z3 := (b23.out.next q3).fz 1
      have b23n : Hid (Bx z12d B23 (.int .i64 sD) (.slice qD mD kD)) := by show Bx _ _ _ _; rw [← hz12d]; exact (b23.out.next q3).set _ _
      have b21n : Hid (Bx z12d B21 (.int .i64 sW) (.slice qC nW kC)) := by show Bx _ _ _ _; rw [← hz12d]; exact (b21.out.next q3).other (by have := HL.out.2; omega) _ _
      replace HU : Hid (Q w7 z12d) := by show Q _ _; rw [← hz12d]; exact ((HU.out.trans q3).set (by have := HL.out; show _ ≤ B23; omega) _).set (by have := HL.out; show _ ≤ B23; omega) _
      replace HO1 : Hid (okW = true → ∃ gC C, qC = some ⟨gC, 0, none⟩ ∧ nW ≤ kC ∧ C.length = nW ∧ Pc z12d gC 0 a b C ∧ C.map PL.S = AW) := fun h => by
        obtain ⟨gC, C, h1, h2, h3, h4, h6, h5⟩ := HO1.out h
        refine ⟨gC, C, h1, h2, h3, ?_, h5⟩
        rw [← hz12d]
        exact (h4.next q3).set h6.1 h6.2 _ _
      have HO2 : Hid (okW = true → sD = sW ∧ mD = nW ∧ eD = 0 ∧ ∃ gC C, qD = some ⟨gC, 0, none⟩ ∧ nW ≤ kD ∧ C.length = nW ∧ Pc z12d gC 0 c d C ∧ C.map PL.S = AW.map (cutL a X Y c d)) := fun h => by
        obtain ⟨e1, e2, e3, gC, C, h1, h2, h3, h4, h5⟩ := hok h
        refine ⟨e1, e2, e3, gC, C, h1, h2, h3, ?_, h5⟩
        rw [← hz12d]
        have ap := h4.apart (B := B23) hv3
        exact h4.pc.set ap.1 ap.2 _ _
      clear q3 hok b21 b23 hv3
      have b21 := b21n
      have b23 := b23n
      clear b21n b23n
      replace p0 := HU.out.cell Hp0.out
      replace p1 := HU.out.cell Hp1.out
      replace k0 := HU.out.cell Hk0.out
      replace k1 := HU.out.cell Hk1.out
      replace k2 := HU.out.cell Hk2.out
      replace k3 := HU.out.cell Hk3.out
      replace X0 := HU.out.cell HXa.out
      replace X1 := HU.out.cell HXb.out
      replace Y0 := HU.out.cell HYa.out
      replace Y1 := HU.out.cell HYb.out
      replace r0 := HU.out.cell Hr0.out
      replace r1 := HU.out.cell Hr1.out
      replace m0 := HU.out.cell Hm0.out
      replace m1 := HU.out.cell Hm1.out
      replace m2 := HU.out.cell Hm2.out
      replace m3 := HU.out.cell Hm3.out
      replace m4 := HU.out.cell Hm4.out
      replace m5 := HU.out.cell Hm5.out
      replace m6 := HU.out.cell Hm6.out
      replace m7 := HU.out.cell Hm7.out
      replace m8 := HU.out.cell Hm8.out
      have c0 := b21.out.c0
      have c1 := b21.out.c1
      have d0 := b23.out.c0
      have d1 := b23.out.c1
      rcases HEW.out with ⟨hok, he⟩ | ⟨hok, he⟩
      · subst hok he
        obtain ⟨gC, C, rfl, i1, i2, i3, i4⟩ := HO1.out rfl
        obtain ⟨rfl, rfl, rfl, gD, D, rfl, j1, j2, j3, j4⟩ := HO2.out rfl
        have HZ := HPC.out z12d sD gC kC mD gD kD C D i3 i2 i1 j3 j1 (by rw [j4, i4])
        have HZ : Hid _ := HZ
        clear i1 i2 i3 i4 j1 j2 j3 j4 HO1 HO2
        go_wp2_with (go_at_call 5; refine (l1 _ _).mono ?_; rintro e w1 ⟨rfl, hw⟩; obtain rfl := hw.symm)
        refine Calls.mono HZ.out ?_
        rintro e y ⟨rfl, q⟩
        have HEND : Hid (Q w y) := HQ7.out.trans (HU.out.trans q)
        clear q
        go_wp2_with (go_at_call 5; refine (l1 _ _).mono ?_; rintro e w1 ⟨rfl, hw⟩; obtain rfl := hw.symm)
        go_ret
        exact ⟨rfl, HEND.out⟩
      · subst hok
        have t2 : (eW != 0) = true := by rw [bne_iff_ne]; exact he
        clear he HO1 HO2
        have HEND : Hid (Q w z12d) := HQ7.out.trans HU.out
        go_wp2_with (go_at_call 5; refine (l1 _ _).mono ?_; rintro e w1 ⟨rfl, hw⟩; obtain rfl := hw.symm)
        go_ret
        exact ⟨rfl, HEND.out⟩
end Go.Proofs.Ytdempklpmggdoaa
