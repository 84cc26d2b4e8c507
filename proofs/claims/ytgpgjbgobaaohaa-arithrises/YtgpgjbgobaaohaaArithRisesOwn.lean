/- Of every three samples: sums, roots and products by what isn't negative rise; what is near is taken away exactly; no condition. -/
import Derived.Test.YtgpgjbgobaaohaaRows
import Derived.WalkKit
import Derived.ProofKit
import Derived.OpenShut
import Derived.Test.YtgpgjbgobaaohaaG278b0e8c
import Derived.Test.YtgpgjbgobaaohaaG4fa8ce42
import Derived.Test.YtgpgjbgobaaohaaG47c4effe
namespace Go.Proofs.Ytgpgjbgobaaohaa
open Go.ChangeShapes Go.WideShapes Go.ChangeAt Go.RowKit
set_option linter.unusedVariables false

theorem arithRises_own : ownKnob Try.prog.godebug = none := by kernel_rfl

set_option linter.unusedSimpArgs false
theorem above_rise {a b : Nat} (h : aboveB a b = false) : nanN a = false → nanN b = false → srung32 a ≤ srung32 b := fun ha hb => by
  unfold aboveB at h
  rw [ha, hb] at h
  have := of_decide_eq_false (show decide (srung32 b < srung32 a) = false from h)
  omega
theorem above_fall {a b : Nat} (h : aboveB a b = true) : nanN b = false → nanN a = false → srung32 b ≤ srung32 a := fun hb ha => by
  unfold aboveB at h
  rw [ha, hb] at h
  have := of_decide_eq_true (show decide (srung32 b < srung32 a) = true from h)
  omega
theorem sqrtV_lt (a : Nat) : sqrtV a < 4294967296 := by
  unfold sqrtV
  split
  · decide
  · split
    · exact toldD_lt _
    · decide
theorem of_fin {p : Nat} (hp : p < 4294967296) (fp : rung32 p < 2139095040) (w : World) : Calls Try.prog 9 #[.agg #[.int .i64 23, .int .i64 8], .int .u64 (p : Int)] w fun e w' => ∃ pa La Ca, e = .returned (.agg #[.int .i64 2, .bool (sgn32 p), .slice pa La Ca, .int .i64 (-149 + (plc32 (rung32 p) : Int)), .bool false]) ∧ NatAt w' (.slice pa La Ca) (mag32 (rung32 p)) ∧ Q w w' := by
  refine (of32_any p w hp).mono ?_
  rintro e w' ⟨v, rfl, hv, q⟩
  rw [numOf_datum, read_fin32 fp] at hv
  obtain ⟨nv, rfl, hn⟩ := hv
  obtain ⟨pa, ba, La, Ca, rfl, hI⟩ := id hn
  exact ⟨pa, La, Ca, rfl, hn, q⟩
theorem near_val {m n P R : Nat} {EP EQ : Int} (hP : EP = -149 + (P : Int)) (hR : EQ = -149 + (R : Int)) : decide (n * 2 ^ (EQ - min EQ (EP + 1)).toNat ≤ m * 2 ^ (EP + 1 - min EQ (EP + 1)).toNat) = decide (n * 2 ^ R ≤ 2 * (m * 2 ^ P)) := by
  obtain ⟨k, hk⟩ : ∃ k, k = min R (P + 1) := ⟨_, rfl⟩
  have e1 : (EQ - min EQ (EP + 1)).toNat = R - k := by omega
  have e2 : (EP + 1 - min EQ (EP + 1)).toNat = P + 1 - k := by omega
  rw [e1, e2, decide_eq_decide]
  have h1 : n * 2 ^ R = n * 2 ^ (R - k) * 2 ^ k := by rw [Nat.mul_assoc, ← Nat.pow_add, Nat.sub_add_cancel (by omega)]
  have h2 : 2 * (m * 2 ^ P) = m * 2 ^ (P + 1 - k) * 2 ^ k := by rw [Nat.mul_assoc, ← Nat.pow_add, Nat.sub_add_cancel (by omega), Nat.pow_succ, Nat.mul_left_comm, Nat.mul_comm 2 (2 ^ P)]
  rw [h1, h2]
  exact (Nat.mul_le_mul_right_iff (Nat.two_pow_pos k)).symm
theorem mag_blen {r : Nat} : blen (mag32 r) ≤ 2000 := by
  have h := mag_lt32 r
  rcases Nat.eq_zero_or_pos (mag32 r) with z | z
  · rw [z]; decide
  · have : blen (mag32 r) ≤ 24 := blen_le (by exact h)
    omega
set_option maxHeartbeats 4000000 in
theorem arithRises_walk (a0 : Int) (a1 : Int) (a2 : Int) (w0 : (Lit.int .u32 a0).wf = true) (w1 : (Lit.int .u32 a1).wf = true) (w2 : (Lit.int .u32 a2).wf = true) (w : World) :
    Calls Try.prog 4 #[.int .u32 a0, .int .u32 a1, .int .u32 a2] w fun e w' => e = .returned (.bool true) ∧ Grown w w' := by
  obtain ⟨x0, x1⟩ := bounds_u32 w0
  obtain ⟨y0, y1⟩ := bounds_u32 w1
  obtain ⟨z0, z1⟩ := bounds_u32 w2
  obtain ⟨a, rfl⟩ := Int.eq_ofNat_of_zero_le x0
  obtain ⟨b, rfl⟩ := Int.eq_ofNat_of_zero_le y0
  obtain ⟨c, rfl⟩ := Int.eq_ofNat_of_zero_le z0
  have ha : a < 4294967296 := by omega
  have hb : b < 4294967296 := by omega
  have hc : c < 4294967296 := by omega
  go_enter Try.func4, Try.ntmps4
  go_wp2_with fail
  refine (known_any _).mono ?_
  rintro e v1 ⟨rfl, q1⟩
  go_wp2_with fail
  refine (labove_any a b ha hb _).mono ?_
  rintro e v2 ⟨rfl, rfl⟩
  obtain ⟨B, hB⟩ : ∃ B, aboveB a b = B := ⟨_, rfl⟩
  have HB : Hid (aboveB a b = B) := hB
  rw [hB]
  clear hB
  go_upto_if 16 with fail
  go_cut [0, 1] from 17 to 18 (fun s0 s1 wc => wc = v2 ∧ ∃ p q : Nat, s0 = .int .u32 p ∧ s1 = .int .u32 q ∧ Hid (p < 4294967296 ∧ q < 4294967296 ∧ (nanN p = false → nanN q = false → srung32 p ≤ srung32 q)))
  case first =>
    cases B
    · go_wp2_with fail
      go_meet
      case rel =>
        exact ⟨rfl, a, b, rfl, rfl, ⟨ha, hb, above_rise HB.out⟩⟩
    · go_wp2_with fail
      go_meet
      case rel =>
        exact ⟨rfl, b, a, rfl, rfl, ⟨hb, ha, above_fall HB.out⟩⟩
  case rest =>
    obtain ⟨rfl, p, q, rfl, rfl, HPQ⟩ := hcut
    clear HB
    obtain ⟨hp, hq, hpq⟩ := id HPQ.out
    have np := fun w => lisnan_any p hp w
    have nq := fun w => lisnan_any q hq w
    cases hnp : nanN p
    · rw [hnp] at np
      cases hnq : nanN q
      · rw [hnq] at nq
        have le := hpq hnp hnq
        have HLE : Hid (srung32 p ≤ srung32 q) := le
        have HNP : Hid (nanN p = false) := hnp
        have HNQ : Hid (nanN q = false) := hnq
        clear hpq le hnp hnq HPQ
        go_wp2_with fail
        refine (np _).mono ?_
        rintro e v3 ⟨rfl, rfl⟩
        go_wp2_with fail
        refine (nq _).mono ?_
        rintro e v4 ⟨rfl, rfl⟩
        clear np nq
        go_upto_region 7 with fail
        go_cut [52] from 25 to 51 (fun s52 wc => s52 = .bool false ∧ Q w wc)
        case first =>
          have b1 := fun w => labove_any _ _ (toldD_lt ((Ieee.single.read p).sum (Ieee.single.read c))) (toldD_lt ((Ieee.single.read q).sum (Ieee.single.read c))) w
          rw [rise_above (add_rises HNP.out HNQ.out HLE.out)] at b1
          have k1 := fun w => cadd_any p c w
          have k2 := fun w => cadd_any q c w
          generalize toldD ((Ieee.single.read p).sum (Ieee.single.read c)) = A1 at b1 k1
          generalize toldD ((Ieee.single.read q).sum (Ieee.single.read c)) = A2 at b1 k2
          have b2 := fun w => labove_any _ _ (sqrtV_lt p) (sqrtV_lt q) w
          rw [rise_above (sqrt_rises HNP.out HNQ.out HLE.out)] at b2
          have k3 := fun w => csqrt_any p w
          have k4 := fun w => csqrt_any q w
          generalize sqrtV p = S1 at b2 k3
          generalize sqrtV q = S2 at b2 k4
          have tc := top_bit hc
          cases hs : sgn32 c
          · have b3 := fun w => labove_any _ _ (toldD_lt ((Ieee.single.read p).product (Ieee.single.read c))) (toldD_lt ((Ieee.single.read q).product (Ieee.single.read c))) w
            rw [rise_above (mul_rises HNP.out HNQ.out HLE.out hs)] at b3
            have k5 := fun w => cmul_any p c w
            have k6 := fun w => cmul_any q c w
            generalize toldD ((Ieee.single.read p).product (Ieee.single.read c)) = M1 at b3 k5
            generalize toldD ((Ieee.single.read q).product (Ieee.single.read c)) = M2 at b3 k6
            rw [hs, if_neg (by decide)] at tc
            clear hs
            go_wp2_with fail
            refine (k1 _).mono ?_
            rintro e v5 ⟨rfl, g5⟩
            go_wp2_with fail
            refine (k2 _).mono ?_
            rintro e v6 ⟨rfl, g6⟩
            go_wp2_with fail
            refine (b1 _).mono ?_
            rintro e v7 ⟨rfl, rfl⟩
            go_wp2_with fail
            refine (k3 _).mono ?_
            rintro e v8 ⟨rfl, g8⟩
            go_wp2_with fail
            refine (k4 _).mono ?_
            rintro e v9 ⟨rfl, g9⟩
            go_wp2_with fail
            refine (b2 _).mono ?_
            rintro e v10 ⟨rfl, rfl⟩
            go_wp2_with fail
            refine (k5 _).mono ?_
            rintro e v11 ⟨rfl, g11⟩
            go_wp2_with fail
            refine (k6 _).mono ?_
            rintro e v12 ⟨rfl, g12⟩
            go_wp2_with fail
            refine (b3 _).mono ?_
            rintro e v13 ⟨rfl, rfl⟩
            go_wp2_with fail
            go_meet
            case rel =>
              exact ⟨rfl, (((((q1.trans g5).trans g6).trans g8).trans g9).trans g11).trans g12⟩
          · rw [hs, if_pos rfl] at tc
            clear hs
            go_wp2_with fail
            refine (k1 _).mono ?_
            rintro e v5 ⟨rfl, g5⟩
            go_wp2_with fail
            refine (k2 _).mono ?_
            rintro e v6 ⟨rfl, g6⟩
            go_wp2_with fail
            refine (b1 _).mono ?_
            rintro e v7 ⟨rfl, rfl⟩
            go_wp2_with fail
            refine (k3 _).mono ?_
            rintro e v8 ⟨rfl, g8⟩
            go_wp2_with fail
            refine (k4 _).mono ?_
            rintro e v9 ⟨rfl, g9⟩
            go_wp2_with fail
            refine (b2 _).mono ?_
            rintro e v10 ⟨rfl, rfl⟩
            go_wp2_with fail
            go_meet
            case rel =>
              exact ⟨rfl, (((q1.trans g5).trans g6).trans g8).trans g9⟩
        case rest =>
          obtain ⟨rfl, qc⟩ := hcut
          have ip := fun w => linf_any p hp w
          have iq := fun w => linf_any q hq w
          have tp := top_bit hp
          have tq := top_bit hq
          rcases cases32 HNP.out with fp | fp
          · rw [decide_eq_false (show ¬ rung32 p = 2139095040 by omega)] at ip
            rcases cases32 HNQ.out with fq | fq
            · rw [decide_eq_false (show ¬ rung32 q = 2139095040 by omega)] at iq
              by_cases hs : sgn32 p = sgn32 q
              · have HS : Hid (sgn32 p = sgn32 q) := hs
                have HFP : Hid (rung32 p < 2139095040) := fp
                have HFQ : Hid (rung32 q < 2139095040) := fq
                have op := fun w => of_fin hp fp w
                have oq := fun w => of_fin hq fq w
                rw [hs] at tp
                have hep : plc32 (rung32 p) ≤ 253 := by unfold plc32; omega
                have heq : plc32 (rung32 q) ≤ 253 := by unfold plc32; omega
                obtain ⟨EP, hEP⟩ : ∃ EP : Int, EP = -149 + (plc32 (rung32 p) : Int) := ⟨_, rfl⟩
                obtain ⟨EQ, hEQ⟩ : ∃ EQ : Int, EQ = -149 + (plc32 (rung32 q) : Int) := ⟨_, rfl⟩
                rw [← hEP] at op
                rw [← hEQ] at oq
                have bp0 : -149 ≤ EP := by omega
                have bp1 : EP ≤ 104 := by omega
                have bq0 : -149 ≤ EQ := by omega
                have bq1 : EQ ≤ 104 := by omega
                have HEP : Hid (EP = -149 + (plc32 (rung32 p) : Int)) := hEP
                have HEQ : Hid (EQ = -149 + (plc32 (rung32 q) : Int)) := hEQ
                clear hEP hEQ hep heq fp fq hs
                generalize (if sgn32 q = true then (1 : Int) else 0) = T at tp tq
                generalize sgn32 p = sp at op
                generalize sgn32 q = sq at oq
                go_wp2_with fail
                refine (ip _).mono ?_
                rintro e v14 ⟨rfl, rfl⟩
                go_wp2_with fail
                refine (iq _).mono ?_
                rintro e v15 ⟨rfl, rfl⟩
                clear ip iq
                go_wp2_with fail
                refine (f32_any _).mono ?_
                rintro e v16 ⟨rfl, g16⟩
                go_wp2_with fail
                refine (op _).mono ?_
                rintro e v17 ⟨pa, La, Ca, rfl, hn17, g17⟩
                go_wp2_with fail
                refine (f32_any _).mono ?_
                rintro e v18 ⟨rfl, g18⟩
                go_wp2_with fail
                refine (oq _).mono ?_
                rintro e v19 ⟨pb, Lb, Cb, rfl, hn19, g19⟩
                have QQ : Hid (Q w v19) := (((qc.trans g16).trans g17).trans g18).trans g19
                have NA : Hid (NatAt v19 (.slice pa La Ca) (mag32 (rung32 p))) := Q.nat (g18.trans g19) hn17
                have NB : Hid (NatAt v19 (.slice pb Lb Cb) (mag32 (rung32 q))) := hn19
                clear qc g16 g17 g18 g19 hn17 hn19 op oq tp tq
                go_wp2_with fail
                obtain ⟨x2, hx2⟩ : ∃ x2, (v19.alloc (Obj.cells #[Value.int IntKind.i64 2, Value.bool false, Value.slice pa La Ca, Value.int IntKind.i64 EP, Value.bool false] 31)).alloc (Obj.cells #[Value.int IntKind.i64 2, Value.bool false, Value.slice pb Lb Cb, Value.int IntKind.i64 EQ, Value.bool false] 31) = x2 := ⟨_, rfl⟩
                have QX : Q v19 x2 := by rw [← hx2]; exact ((Q.refl v19).cells _ _).cells _ _
                have BA : (⟨2, false, pa, La, Ca, EP, false⟩ : N5).at x2 v19.heap.size := by rw [← hx2]; exact ⟨by simp [go_sem], by simp [go_sem], by simp [go_sem], by simp [go_sem], by simp [go_sem]⟩
                have BB : (⟨2, false, pb, Lb, Cb, EQ, false⟩ : N5).at x2 (v19.heap.size + 1) := by rw [← hx2]; exact ⟨by simp [go_sem], by simp [go_sem], by simp [go_sem], by simp [go_sem], by simp [go_sem]⟩
                have sz : x2.heap.size = v19.heap.size + 2 := by rw [← hx2]; simp
                rw [hx2]
                clear hx2
                refine region13 rfl rfl rfl rfl BA BB ?_
                intro x3 V9 V10 q3 l9 l10 n9 c9 c10 z9 z10
                obtain ⟨a0, a1, a2, a3, a4⟩ := BA.next q3
                obtain ⟨b0, b1, b2, b3, b4⟩ := BB.next q3
                obtain ⟨c0, c1, c2, c3, c4⟩ := c9
                obtain ⟨d0, d1, d2, d3, d4⟩ := c10
                simp only at a0 a1 a2 a3 a4 b0 b1 b2 b3 b4 c0 c1 c2 c3 c4 d0 d1 d2 d3 d4
                have QV : Hid (Q v19 ((x3.setCell ⟨V9, 3, none⟩ (.int .i64 (EP + 1))).setCell ⟨V10, 3, none⟩ (.int .i64 (EQ + 1)))) := ((QX.trans q3).set (show v19.heap.size ≤ V9 by omega) _).set (show v19.heap.size ≤ V10 by omega) _
                have m1 : V9 ≠ v19.heap.size := by omega
                have m2 : V9 ≠ v19.heap.size + 1 := by omega
                have m3 : V10 ≠ v19.heap.size := by omega
                have m4 : V10 ≠ v19.heap.size + 1 := by omega
                have m5 := m1.symm
                have m6 := m2.symm
                have m7 := m3.symm
                have m8 := m4.symm
                have n10 := n9.symm
                clear QX BA BB sz l9 l10 q3
                simp only [putAll, Act.put, ptrV, N5.v, num5]
                go_wp2_with fail
                refine (nearer_any false false false false (.slice pb Lb Cb) (.slice pa La Ca) (mag32 (rung32 q)) (mag32 (rung32 p)) EQ (EP + 1) _ (QV.out.nat NB.out) (QV.out.nat NA.out) mag_blen (by omega) (by omega) mag_blen (by omega) (by omega)).mono ?_
                rintro e v20 ⟨rfl, g20⟩
                rw [near_val HEP.out HEQ.out]
                have h1 : decide (mag32 (rung32 q) * 2 ^ plc32 (rung32 q) ≤ 2 * (mag32 (rung32 p) * 2 ^ plc32 (rung32 p))) = decide (val32 (rung32 q) ≤ 2 * val32 (rung32 p)) := rfl
                rw [h1]
                clear h1
                have e0 := g20.cell (p := ⟨v19.heap.size, 0, none⟩) (v := .int .i64 2) (by simp [go_sem, a0, a1, a2, a3, a4, m1, m3, m5, m7])
                have e1 := g20.cell (p := ⟨v19.heap.size, 1, none⟩) (v := .bool false) (by simp [go_sem, a0, a1, a2, a3, a4, m1, m3, m5, m7])
                have e2 := g20.cell (p := ⟨v19.heap.size, 2, none⟩) (v := .slice pa La Ca) (by simp [go_sem, a0, a1, a2, a3, a4, m1, m3, m5, m7])
                have e3 := g20.cell (p := ⟨v19.heap.size, 3, none⟩) (v := .int .i64 EP) (by simp [go_sem, a0, a1, a2, a3, a4, m1, m3, m5, m7])
                have e4 := g20.cell (p := ⟨v19.heap.size, 4, none⟩) (v := .bool false) (by simp [go_sem, a0, a1, a2, a3, a4, m1, m3, m5, m7])
                have f0 := g20.cell (p := ⟨V10, 0, none⟩) (v := .int .i64 2) (by simp [go_sem, d0, d1, d2, d3, d4, n9, n10])
                have f1 := g20.cell (p := ⟨V10, 1, none⟩) (v := .bool false) (by simp [go_sem, d0, d1, d2, d3, d4, n9, n10])
                have f2 := g20.cell (p := ⟨V10, 2, none⟩) (v := .slice pb Lb Cb) (by simp [go_sem, d0, d1, d2, d3, d4, n9, n10])
                have f3 := g20.cell (p := ⟨V10, 3, none⟩) (v := .int .i64 (EQ + 1)) (by simp [go_sem, d0, d1, d2, d3, d4, n9, n10])
                have f4 := g20.cell (p := ⟨V10, 4, none⟩) (v := .bool false) (by simp [go_sem, d0, d1, d2, d3, d4, n9, n10])
                have NA2 : Hid (NatAt v20 (.slice pa La Ca) (mag32 (rung32 p))) := Q.nat (QV.out.trans g20) NA.out
                have NB2 : Hid (NatAt v20 (.slice pb Lb Cb) (mag32 (rung32 q))) := Q.nat (QV.out.trans g20) NB.out
                have Q20 : Hid (Q w v20) := (QQ.out.trans QV.out).trans g20
                clear g20 QV NA NB QQ a0 a1 a2 a3 a4 b0 b1 b2 b3 b4 c0 c1 c2 c3 c4 d0 d1 d2 d3 d4 z9 z10
                by_cases h1 : val32 (rung32 q) ≤ 2 * val32 (rung32 p)
                · rw [decide_eq_true h1]
                  have H1 : Hid (val32 (rung32 q) ≤ 2 * val32 (rung32 p)) := h1
                  clear h1
                  go_wp2_with fail
                  refine (nearer_any false false false false (.slice pa La Ca) (.slice pb Lb Cb) (mag32 (rung32 p)) (mag32 (rung32 q)) EP (EQ + 1) _ NA2.out NB2.out mag_blen (by omega) (by omega) mag_blen (by omega) (by omega)).mono ?_
                  rintro e v21 ⟨rfl, g21⟩
                  rw [near_val HEQ.out HEP.out]
                  have h1 : decide (mag32 (rung32 p) * 2 ^ plc32 (rung32 p) ≤ 2 * (mag32 (rung32 q) * 2 ^ plc32 (rung32 q))) = decide (val32 (rung32 p) ≤ 2 * val32 (rung32 q)) := rfl
                  rw [h1]
                  clear h1 e0 e1 e2 e3 e4 f0 f1 f2 f3 f4 NA2 NB2
                  have Q21 : Hid (Q w v21) := Q20.out.trans g21
                  clear g21 Q20
                  by_cases h2 : val32 (rung32 p) ≤ 2 * val32 (rung32 q)
                  · rw [decide_eq_true h2]
                    obtain ⟨nb1, nb2⟩ := near_back HFP.out HFQ.out HS.out H1.out h2
                    have k1 := fun w => csub_any p q w
                    have hd := toldD_lt ((Ieee.single.read p).sum (Ieee.single.read q).opposite)
                    generalize toldD ((Ieee.single.read p).sum (Ieee.single.read q).opposite) = d at nb1 nb2 k1 hd
                    have k2 := fun w => cadd_any d q w
                    have hD := toldD_lt ((Ieee.single.read d).sum (Ieee.single.read q))
                    generalize toldD ((Ieee.single.read d).sum (Ieee.single.read q)) = D at nb2 k2 hD
                    have k3 := fun w => lkey_any D hD w
                    have k4 := fun w => lkey_any p hp w
                    rw [nb2] at k3
                    generalize srung32 p = KP at k3 k4
                    have k5 := fun w => lisnan_any d hd w
                    rw [nb1] at k5
                    clear h2 nb1 nb2 hd hD H1 HS HFP HFQ HEP HEQ HLE HNP HNQ
                    go_wp2_with fail
                    refine (k1 _).mono ?_
                    rintro e v22 ⟨rfl, g22⟩
                    go_wp2_with fail
                    refine (k2 _).mono ?_
                    rintro e v23 ⟨rfl, g23⟩
                    go_wp2_with fail
                    refine (k3 _).mono ?_
                    rintro e v24 ⟨rfl, rfl⟩
                    go_wp2_with fail
                    refine (k4 _).mono ?_
                    rintro e v25 ⟨rfl, rfl⟩
                    go_wp2_with fail
                    refine (k5 _).mono ?_
                    rintro e v26 ⟨rfl, rfl⟩
                    go_wp2_with fail
                    go_ret
                    exact ⟨rfl, ((Q21.out.trans g22).trans g23).grown⟩
                  · rw [decide_eq_false h2]
                    clear h2 H1 HS HFP HFQ HEP HEQ HLE HNP HNQ
                    go_wp2_with fail
                    go_ret
                    exact ⟨rfl, Q21.out.grown⟩
                · rw [decide_eq_false h1]
                  clear h1 HS HFP HFQ HEP HEQ HLE HNP HNQ
                  go_wp2_with fail
                  go_ret
                  exact ⟨rfl, Q20.out.grown⟩
              · have hne : (↑p / 2147483648 : Int) ≠ ↑q / 2147483648 := by
                  rw [tp, tq]
                  intro e
                  apply hs
                  cases h1 : sgn32 p <;> cases h2 : sgn32 q <;> rw [h1, h2] at e <;> simp at e <;> rfl
                have hneb : ((↑p / 2147483648 : Int) != ↑q / 2147483648) = true := by simpa using hne
                have hneb' : ((↑p / 2147483648 : Int) == ↑q / 2147483648) = false := by simpa using hne
                clear tp tq hs fp fq HLE HNP HNQ hne
                go_wp2_with fail
                refine (ip _).mono ?_
                rintro e v14 ⟨rfl, rfl⟩
                go_wp2_with fail
                refine (iq _).mono ?_
                rintro e v15 ⟨rfl, rfl⟩
                go_wp2_with fail
                go_ret
                exact ⟨rfl, qc.grown⟩
            · rw [decide_eq_true fq] at iq
              clear tp tq fp fq HLE HNP HNQ
              go_wp2_with fail
              refine (ip _).mono ?_
              rintro e v14 ⟨rfl, rfl⟩
              go_wp2_with fail
              refine (iq _).mono ?_
              rintro e v15 ⟨rfl, rfl⟩
              go_wp2_with fail
              go_ret
              exact ⟨rfl, qc.grown⟩
          · rw [decide_eq_true fp] at ip
            clear tp tq fp HLE HNP HNQ iq
            go_wp2_with fail
            refine (ip _).mono ?_
            rintro e v14 ⟨rfl, rfl⟩
            go_wp2_with fail
            go_ret
            exact ⟨rfl, qc.grown⟩
      · rw [hnq] at nq
        clear hpq hnp hnq HPQ
        go_wp2_with fail
        refine (np _).mono ?_
        rintro e v3 ⟨rfl, rfl⟩
        go_wp2_with fail
        refine (nq _).mono ?_
        rintro e v4 ⟨rfl, rfl⟩
        go_wp2_with fail
        go_ret
        exact ⟨rfl, q1.grown⟩
    · rw [hnp] at np
      clear hpq hnp HPQ nq
      go_wp2_with fail
      refine (np _).mono ?_
      rintro e v3 ⟨rfl, rfl⟩
      go_wp2_with fail
      go_ret
      exact ⟨rfl, q1.grown⟩

set_option maxRecDepth 100000 in
theorem arithRises_lifted (os : Os) (started : os.Started) (H : Type) (enc : TypeId × Value → H) :
    ReturnsInHanded {} Try.checked os 4 .any (Rows.arithRisesSpec.pre6 enc Try.prog Try.f4 Rows.arithRisesRow.domain false) (Rows.arithRisesSpec.post enc Try.prog Try.f4 false true false false) := by
  refine returnsInHanded_of_change (C := Try.checked) arithRises_own started (by kernel_rfl) Try.func4
    (ChangeSpec.witness6 (enc := enc) (C := Try.checked) false ⟨#[], #[.int .u32 0, .int .u32 0, .int .u32 0], []⟩ 8 (by kernel_rfl) (by kernel_rfl) (by kernel_rfl) (by kernel_rfl)) ?_
  intro W base args ds gs before hval0 hW hcnd _
  have hval : ∀ (j : Nat) t v, Try.f4.params[j]? = some t → args[j]? = some v → Value.okWide Try.prog W .any base t v := hval0
  have hW' := hW
  obtain ⟨p, q, hA0, hV, rfl, hfz, hnd⟩ := hW
  have hA : DataW.TrodAll enc Try.prog W 0 (fun _ => true) true Try.f4.params.toList args.toList ds p := hA0
  rw [Try.params4] at hA hval
  obtain ⟨v0, vs0, d0, ds0, p0, q0, hargs, rfl, rfl, h0, r0⟩ := trodAll_cons hA
  obtain ⟨v1, vs1, d1, ds1, p1, q1, rfl, rfl, rfl, h1, r1⟩ := trodAll_cons r0
  obtain ⟨v2, vs2, d2, ds2, p2, q2, rfl, rfl, rfl, h2, r2⟩ := trodAll_cons r1
  obtain ⟨rfl, rfl, rfl⟩ := trodAll_nil r2
  obtain rfl : args = #[v0, v1, v2] := by cases args; simp_all
  obtain ⟨rfl, rfl⟩ := trodVars_none hV
  obtain ⟨a0, rfl, rfl, rfl, w0⟩ := open_int Try.underlying22 (hval 0 22 v0 rfl rfl) h0
  obtain ⟨a1, rfl, rfl, rfl, w1⟩ := open_int Try.underlying22 (hval 1 22 v1 rfl rfl) h1
  obtain ⟨a2, rfl, rfl, rfl, w2⟩ := open_int Try.underlying22 (hval 2 22 v2 rfl rfl) h2
  clear hA0 hval0
  simp only [List.append_nil] at hW'
  refine (arithRises_walk a0 a1 a2 w0 w1 w2 W).mono fun e W' ⟨he, hg⟩ => ?_
  subst he
  exact ⟨_, rfl, post_of_same (pa := []) (pv := []) hW' (fun _ _ _ => (trodAll_cons_mk (shut_bool Try.underlying4 _) trodAll_mk0)) (fun sp _ => (trodAll_cons_mk (shut_int Try.underlying22 w0) (trodAll_cons_mk (shut_int Try.underlying22 w1) (trodAll_cons_mk (shut_int Try.underlying22 w2) trodAll_mk0)))) (fun _ _ => rfl) rfl
    (hg.frame _) hg.2.1 (ok_one (by kernel_rfl) rfl (okWide_bool_mk Try.underlying4 _))⟩

theorem arithRises_over : Rows.arithRisesRow.holds Try.pinned (OpenSpec.ofChange Rows.arithRisesSpec) :=
  OpenClaim.holds_of_wide 4 Try.f4 rfl rfl rfl rfl rfl rfl rfl ⟨rfl, rfl, rfl, rfl, rfl⟩ rfl rfl rfl rfl rfl (by kernel_rfl) Try.func4 (by kernel_rfl)
    (of_decide_eq_true (by kernel_rfl)) (by unfold Func.isWrapper; first | (rw [if_pos (by decide +kernel)]; kernel_rfl) | (rw [if_neg (by decide +kernel)]; exact ⟨rfl, rfl⟩))
    (fun os started H enc _ => arithRises_lifted os started H enc)

theorem arithRises_holds : Rows.ArithRisesSaid :=
  arithRises_over
#print axioms arithRises_holds
end Go.Proofs.Ytgpgjbgobaaohaa
