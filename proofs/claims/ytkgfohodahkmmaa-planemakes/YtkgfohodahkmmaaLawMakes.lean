/- What is said of planes made: the walk. -/
import Derived.Test.YtkgfohodahkmmaaRmF
namespace Go.Proofs.Ytkgfohodahkmmaa
open Go.RowKit
set_option linter.unusedVariables false
set_option linter.unusedSimpArgs false

set_option maxHeartbeats 8000000 in
set_option maxRecDepth 100000 in
theorem makes_walk (NW NH : Int) (ns : Nat) (W H : Int) (sv : Value) (S : List Nat) (px py : Int) (w : World) (hS : USl w sv S) (hn : S.length ≤ 35184372087808) :
    Calls Try.prog 3 #[.int .i64 NW, .int .i64 NH, .int .u32 (ns : Int), .agg #[.int .i64 W, .int .i64 H, sv], .int .i64 px, .int .i64 py] w fun e w' => e = .returned (.bool true) ∧ Q w w' := by
  obtain ⟨W', H', T, er, hT, CE0, CR0⟩ := both_new NW NH ns
  have CE : Hid (∀ w, Calls Try.prog 11 #[.int .i64 NW, .int .i64 NH, .int .u32 (ns : Int)] w (Ans w W' H' T er)) := CE0
  have CR : Hid (∀ w, Calls Try.prog 12 #[.int .i64 NW, .int .i64 NH, .int .u32 (ns : Int)] w (Ans w W' H' T er)) := CR0
  obtain ⟨gu, gr, CG0, CH0⟩ := both_get W H S (by omega) px py
  have CG : Hid (∀ w v, USl w v S → Calls Try.prog 13 #[.agg #[.int .i64 W, .int .i64 H, v], .int .i64 px, .int .i64 py] w fun e w' => e = .returned (.tuple #[.int .u32 (gu : Int), .int .i64 gr]) ∧ Q w w') := CG0
  have CH : Hid (∀ w v, USl w v S → Calls Try.prog 14 #[.agg #[.int .i64 W, .int .i64 H, v], .int .i64 px, .int .i64 py] w fun e w' => e = .returned (.tuple #[.int .u32 (gu : Int), .int .i64 gr]) ∧ Q w w') := CH0
  obtain ⟨a, cap, ev⟩ := hS.form
  subst ev
  obtain ⟨n, en⟩ : ∃ n, S.length = n := ⟨_, rfl⟩
  have HN : Hid (S.length = n) := en
  rw [en] at hS hn ⊢
  obtain ⟨w1, hw1⟩ : ∃ w1, w.alloc (.cells #[.int .i64 W, .int .i64 H, .slice a n cap] 25) = w1 := ⟨_, rfl⟩
  have Q1 : Hid (Q w w1) := by rw [← hw1]; exact (Q.refl w).cells _ _
  have Bp : Hid (IBox w1 w.heap.size W H (.slice a n cap)) := by rw [← hw1]; exact ⟨by simp [go_sem], by simp [go_sem], by simp [go_sem]⟩
  have HS : Hid (USl w (.slice a n cap) S) := hS
  have K := known_any w1
  clear hS en CE0 CR0 CG0 CH0
  go_enter Try.func3, Try.ntmps3
  go_wp2_with fail
  clear hw1
  refine K.mono ?_
  rintro e w2 ⟨rfl, k2⟩
  have Q2 : Hid (Q w w2) := Q1.out.trans k2
  have hk0 : w.heap.size < w2.heap.size := cell_in (Bp.out.next k2).c0
  have BK : Hid (Bk (fun _ => False) w.heap.size (w2.alloc (.cells #[.slice none 0 0, .slice none 0 0, .slice none 0 0, .slice none 0 0, .slice none 0 0, .slice none 0 0, .slice none 0 0, .slice none 0 0] 35)) w2.heap.size (.slice none 0 0) (.slice none 0 0) []) := book_new w2 w Q2.out.1.size
  obtain ⟨w3, hw3⟩ : ∃ w3, w2.alloc (.cells #[.slice none 0 0, .slice none 0 0, .slice none 0 0, .slice none 0 0, .slice none 0 0, .slice none 0 0, .slice none 0 0, .slice none 0 0] 35) = w3 := ⟨_, rfl⟩
  have hs3 : w3.heap.size = w2.heap.size + 1 := by rw [← hw3]; simp
  have q3 : Q w2 w3 := by rw [← hw3]; exact (Q.refl w2).cells _ _
  rw [hw3] at BK
  have RM : Hid (Rm w3.heap.size (w3.alloc (.cells #[.slice none 0 0, .slice none 0 0, .slice none 0 0, .slice none 0 0, .slice none 0 0, .slice none 0 0, .slice none 0 0, .slice none 0 0] 38)) w3.heap.size (.slice none 0 0) (.slice none 0 0) []) := room_new w3
  obtain ⟨w4, hw4⟩ : ∃ w4, w3.alloc (.cells #[.slice none 0 0, .slice none 0 0, .slice none 0 0, .slice none 0 0, .slice none 0 0, .slice none 0 0, .slice none 0 0, .slice none 0 0] 38) = w4 := ⟨_, rfl⟩
  have q4 : Q w3 w4 := by rw [← hw4]; exact (Q.refl w3).cells _ _
  rw [hw4] at RM
  replace Bp : Hid (IBox w4 w.heap.size W H (.slice a n cap)) := ((Bp.out.next k2).next q3).next q4
  replace BK := BK.out.next q4
  have BK4 : Hid (Bk (fun _ => False) w.heap.size w4 w2.heap.size (.slice none 0 0) (.slice none 0 0) []) := BK
  have Q3 : Hid (Q w w3) := Q2.out.trans q3
  have Q34 : Hid (Q w3 w4) := q4
  obtain ⟨kb, hkb⟩ : ∃ kb, w2.heap.size = kb := ⟨_, rfl⟩
  have hs3' : w3.heap.size = kb + 1 := by rw [← hkb]; exact hs3
  rw [hkb] at BK4
  have RM' : Hid (Rm w3.heap.size w4 (kb + 1) (.slice none 0 0) (.slice none 0 0) []) := by have := RM.out; rw [← hs3']; exact this
  have A := room_plane w3 w4 q4 (kb + 1) RM'.out (by simp) W H (.slice a n cap) S (HS.out.next (Q3.out.trans q4)) (by rw [HN.out]; exact hn)
  obtain ⟨x0, x1, x2⟩ := id Bp.out
  have HK : Hid (w.heap.size < kb ∧ w3.heap.size = kb + 1 ∧ kb + 1 < w4.heap.size) := ⟨by omega, hs3', cell_in RM'.out.c0⟩
  clear K k2 BK q3 q4
  go_wp2_with fail
  clear hw3 hw4 hs3 hs3' hkb RM RM'
  refine A.mono ?_
  rintro e w5 ⟨g, n', hh, cap', sv', wv', rfl, hn', q5, hg, RM5, FR5, BL5⟩
  have hn'' : n' = n := by rw [hn']; exact HN.out
  subst hn''
  have US5 : Hid (USl w5 (.slice (some ⟨g, 0, none⟩) n' (n' + 5)) S) := by
    have := ((RM5.out.it _ (List.mem_append_right _ (List.mem_singleton.2 rfl))).2.1).us
    have h2 := (lentL_us this).usl (cap := n' + 5) (by rw [HN.out]; omega)
    rw [HN.out] at h2
    exact h2
  have BK5 : Hid (Bk (fun _ => False) w.heap.size w5 kb (.slice none 0 0) (.slice none 0 0) []) := BK4.out.keep FR5.out (fun b hb => by
    rcases hb with e | e | e | ⟨x, hx, _⟩
    · exact ⟨by omega, (fun e => by cases e), (fun e => by cases e)⟩
    · cases e
    · cases e
    · cases hx)
  have hkk := HK.out.1
  have B5 : Hid (IBox w5 w.heap.size W H (.slice a n' cap)) := Bp.out.fr FR5.out ⟨by omega, (fun e => by cases e), (fun e => by cases e)⟩
  have Q5 : Hid (Q w3 w5) := q5
  have hk5 : kb < w5.heap.size := cell_in BK5.out.c0
  have hg5 : kb + 1 < g := by have := HK.out.2.2; omega
  obtain ⟨w6, hw6⟩ : ∃ w6, w5.alloc (.cells #[.int .i64 W, .int .i64 H, .slice (some ⟨g, 0, none⟩) n' (n' + 5)] 25) = w6 := ⟨_, rfl⟩
  have q6 : Q w5 w6 := by rw [← hw6]; exact (Q.refl _).cells _ _
  have B6 : Hid (IBox w6 w5.heap.size W H (.slice (some ⟨g, 0, none⟩) n' (n' + 5))) := by rw [← hw6]; exact ⟨by simp [go_sem], by simp [go_sem], by simp [go_sem]⟩
  have B6p : Hid (IBox w6 w.heap.size W H (.slice a n' cap)) := B5.out.next q6
  have QT : Hid (Q w w6) := Q3.out.trans (q5.trans q6)
  obtain ⟨VA, hVA⟩ : ∃ VA, w5.heap.size = VA := ⟨_, rfl⟩
  rw [hVA] at B6
  have hVA1 : kb < VA := by omega
  have BKB : Hid (Bk (fun b => b < w6.heap.size ∧ b ≠ kb) w.heap.size w6 kb (.slice none 0 0) (.slice none 0 0) []) := (BK5.out.next q6).all
  have RMB : Hid (Rm w3.heap.size w6 (kb + 1) sv' wv' [⟨g, hh, cap', lentL S⟩]) := RM5.out.next q6
  have USA : Hid (USl w6 (.slice (some ⟨g, 0, none⟩) n' (n' + 5)) S) := US5.out.next q6
  have HV : Hid (VA < w6.heap.size ∧ kb < VA ∧ kb < g ∧ g < w6.heap.size) := ⟨cell_in B6.out.c0, hVA1, by omega, ((RMB.out.it _ (List.mem_singleton.2 rfl)).2.1).lt⟩
  clear A x0 x1 x2 hn' q5 q6 FR5 BL5
  go_wp2_with fail
  clear hw6 hVA
  go_loopg [16] 2 (fun m s16 wx => ∃ (i : Nat) (bs bm : Value) (L : List Kept), s16 = .int .i64 i ∧ i + m = 2 ∧ L.length = i ∧ Hid (Q w wx) ∧ Hid (Fr w6 wx (fun b => b < w6.heap.size ∧ b ≠ kb)) ∧ Hid (Bk (fun b => b < w6.heap.size ∧ b ≠ kb) w.heap.size wx kb bs bm L))
  case atStart => exact ⟨0, _, _, [], rfl, rfl, rfl, QT, Fr.refl _ _, BKB⟩
  case round =>
    obtain ⟨i, bs, bm, L, rfl, him, hLi, HQ, HF, HB⟩ := hrel
    have bA : Hid (IBox wr VA W H (.slice (some ⟨g, 0, none⟩) n' (n' + 5))) := B6.out.fr HF.out ⟨HV.out.1, by have := HV.out.2.1; omega⟩
    have bP : Hid (IBox wr w.heap.size W H (.slice a n' cap)) := B6p.out.fr HF.out ⟨cell_in B6p.out.c0, by omega⟩
    have uA : Hid (USl wr (.slice (some ⟨g, 0, none⟩) n' (n' + 5)) S) := usl_fr USA.out HF.out (fun b hb => by
      injection hb with hb
      have hb : g = b := hb
      have := HV.out
      exact ⟨by omega, by omega⟩)
    have uP : Hid (USl wr (.slice a n' cap) S) := HS.out.next HQ.out
    by_cases hi : i < 2
    · have hi0 : (0 : Int) ≤ (i : Int) := by omega
      have hi1 : (i : Int) < 2 := by omega
      have HLi : Hid (L.length = i) := hLi
      clear hLi
      go_wp2_with fail
      refine (CE.out wr).mono ?_
      rintro e v1 ⟨ea, en, ec, rfl, q1, us1, new1, n1⟩
      obtain ⟨v2, hv2⟩ : ∃ v2, v1.alloc (.cells #[.int .i64 W', .int .i64 H', .slice ea en ec] 25) = v2 := ⟨_, rfl⟩
      have q2 : Q v1 v2 := by rw [← hv2]; exact (Q.refl _).cells _ _
      have bL : Hid (IBox v2 v1.heap.size W' H' (.slice ea en ec)) := by rw [← hv2]; exact ⟨by simp [go_sem], by simp [go_sem], by simp [go_sem]⟩
      have Q12 : Hid (Q wr v2) := q1.out.trans q2
      have NEW2 : Hid (New wr v2 (.slice ea en ec) en) := new1.out.next q2
      have US2 : Hid (USl v2 (.slice ea en ec) T) := us1.out.next q2
      obtain ⟨VL, hVL⟩ : ∃ VL, v1.heap.size = VL := ⟨_, rfl⟩
      rw [hVL] at bL
      clear q1 us1 new1 q2
      go_wp2_with fail
      clear hv2 hVL
      refine (CR.out v2).mono ?_
      rintro e v3 ⟨ra, rn, rc, rfl, q3, us3, new3, n3⟩
      obtain ⟨v4, hv4⟩ : ∃ v4, v3.alloc (.cells #[.int .i64 W', .int .i64 H', .slice ra rn rc] 25) = v4 := ⟨_, rfl⟩
      have q4 : Q v3 v4 := by rw [← hv4]; exact (Q.refl _).cells _ _
      have bR : Hid (IBox v4 v3.heap.size W' H' (.slice ra rn rc)) := by rw [← hv4]; exact ⟨by simp [go_sem], by simp [go_sem], by simp [go_sem]⟩
      have q24 : Q v2 v4 := q3.out.trans q4
      have US4 : Hid (USl v4 (.slice ra rn rc) T) := us3.out.next q4
      have UL4 : Hid (USl v4 (.slice ea en ec) T) := US2.out.next q24
      have NEW4 : Hid (New wr v4 (.slice ea en ec) en) := NEW2.out.next q24
      have Q14 : Hid (Q wr v4) := Q12.out.trans q24
      replace bL : Hid (IBox v4 VL W' H' (.slice ea en ec)) := bL.out.next q24
      obtain ⟨VR, hVR⟩ : ∃ VR, v3.heap.size = VR := ⟨_, rfl⟩
      rw [hVR] at bR
      obtain ⟨y0, y1, y2⟩ := id (bA.out.next Q14.out)
      clear q3 us3 new3 q4 q24 US2 NEW2 Q12
      go_wp2_with fail
      clear hv4 hVR
      refine (CG.out v4 _ (uA.out.next Q14.out)).mono ?_
      rintro e v5 ⟨rfl, q5⟩
      have Q15 : Hid (Q wr v5) := Q14.out.trans q5
      obtain ⟨t0, t1, t2⟩ := id (bP.out.next Q15.out)
      have Q45 : Hid (Q v4 v5) := q5
      clear y0 y1 y2 q5
      go_wp2_with fail
      refine (CH.out v5 _ (uP.out.next Q15.out)).mono ?_
      rintro e v6 ⟨rfl, q6⟩
      have Q16 : Hid (Q wr v6) := Q15.out.trans q6
      have q46 : Q v4 v6 := Q45.out.trans q6
      clear t0 t1 t2
      have n0 := qw_some v6
      obtain ⟨a0, a1, a2⟩ := id (bL.out.next q46)
      obtain ⟨b0, b1, b2⟩ := id (bR.out.next q46)
      obtain ⟨c0, c1, c2⟩ := id (bA.out.next Q16.out)
      obtain ⟨d0, d1, d2⟩ := id (bP.out.next Q16.out)
      have da0 := qw_cell a0
      have da1 := qw_cell a1
      have da2 := qw_cell a2
      have db0 := qw_cell b0
      have db1 := qw_cell b1
      have db2 := qw_cell b2
      have dc0 := qw_cell c0
      have dc1 := qw_cell c1
      have dc2 := qw_cell c2
      have dd0 := qw_cell d0
      have dd1 := qw_cell d1
      have dd2 := qw_cell d2
      have SA : Hid (∀ nn : QW v6, Calls Try.prog 15 #[.agg #[.int .i64 W', .int .i64 H', .slice ea en ec], .int .i64 er, .agg #[.int .i64 W', .int .i64 H', .slice ra rn rc], .int .i64 er] nn.x fun e w' => e = .returned (.bool true) ∧ Q nn.x w') := fun nn => same_yes W' H' _ _ er T nn.x (UL4.out.next (q46.trans nn.q)) (US4.out.next (q46.trans nn.q)) (by omega)
      have CA : Hid (∀ nn : QW v6, Calls Try.prog 17 #[.agg #[.int .i64 W, .int .i64 H, .slice (some ⟨g, 0, none⟩) n' (n' + 5)]] nn.x fun e w' => e = .returned (.int .i64 (chk W H n')) ∧ Q nn.x w') := fun nn => check_any W H _ n' _ (by omega) nn.x
      have CB : Hid (∀ nn : QW v6, Calls Try.prog 18 #[.agg #[.int .i64 W, .int .i64 H, .slice a n' cap]] nn.x fun e w' => e = .returned (.int .i64 (chk W H n')) ∧ Q nn.x w') := fun nn => rcheck_any W H _ n' _ (by omega) nn.x
      generalize chk W H n' = ck at CA CB
      have e1 : (gu == gu) = true := by simp
      have e2 : (gr == gr) = true := by simp
      have e3 : (ck == ck) = true := by simp
      clear a0 a1 a2 b0 b1 b2 c0 c1 c2 d0 d1 d2
      go_wp2_with fail
      refine wp_region_quiet_Q (by kernel_rfl) (by kernel_rfl) ?_
      repeat (first | go_big_quiet_step (first | (go_at_call 15; exact calls_qw (SA.out _)) | (go_at_call 16; exact calls_qs (num_any _ _)) | (go_at_call 17; exact calls_qw (CA.out _)) | (go_at_call 18; exact calls_qw (CB.out _))) | quiet_step (first | (go_at_call 15; exact calls_qw (SA.out _)) | (go_at_call 16; exact calls_qs (num_any _ _)) | (go_at_call 17; exact calls_qw (CA.out _)) | (go_at_call 18; exact calls_qw (CB.out _))))
      refine wpQuiet_nil ?_
      intro v7 hw'
      have q7 := qw_out hw'
      clear hw' n0 da0 da1 da2 db0 db1 db2 dc0 dc1 dc2 dd0 dd1 dd2 SA CA CB
      have Q17 : Hid (Q wr v7) := Q16.out.trans q7
      have NEW7 : Hid (New wr v7 (.slice ea en ec) en) := NEW4.out.next (q46.trans q7)
      obtain ⟨z0, z1, z2⟩ := id (bL.out.next (q46.trans q7))
      have BP := book_plane w wr v7 (HQ.out.trans Q17.out) Q17.out kb HB.out (by rw [HLi.out]; omega) W' H' (.slice ea en ec) en i NEW7.out n1 (by omega)
      clear q46 q6 q7
      go_wp2_with fail
      refine BP.mono ?_
      rintro e v8 ⟨rfl, bs', bm', x, q8, b8, f8⟩
      have F8 : Hid (Fr w6 v8 (fun b => b < w6.heap.size ∧ b ≠ kb)) := (HF.out.trans (Q17.out.fr _)).trans f8.out
      have HL4 : Hid ((L ++ [x]).length = i + 1) := by show _ = _; rw [List.length_append, HLi.out]; rfl
      clear BP
      go_wp2_with fail
      go_roundg (2 - (i + 1))
      case measure => go_light; omega
      case rel => go_light; exact ⟨i + 1, bs', bm', L ++ [x], by go_num, by omega, HL4.out, q8, F8, b8⟩
    · have hie : i = 2 := by omega
      have BH := book_hold _ wr kb HB.out (by omega)
      have RMW : Hid (Rm w3.heap.size wr (kb + 1) sv' wv' [⟨g, hh, cap', lentL S⟩]) := RMB.out.keep HF.out (fun b hb => by
        have h1 := RMB.out.lt hb
        have h2 := HK.out.2.1
        exact ⟨h1.2, by omega⟩)
      have HNL : Hid (∀ x ∈ [(⟨g, hh, cap', lentL S⟩ : Lend)], x.V.length ≤ 35184372087813) := fun x hx => by
        rw [List.mem_singleton] at hx
        subst hx
        show (lentL S).length ≤ _
        rw [lentL_length, HN.out]
        omega
      clear hLi
      go_wp2_with fail
      refine BH.mono ?_
      rintro e v1 ⟨rfl, q1⟩
      have RH := room_hold _ v1 (kb + 1) (RMW.out.next q1) (by simp) HNL.out
      have QE : Hid (Q w v1) := HQ.out.trans q1
      clear BH
      go_wp2_with fail
      refine RH.mono ?_
      rintro e v2 ⟨rfl, q2⟩
      have QF : Hid (Q w v2) := QE.out.trans q2
      go_wp2_with fail
      go_ret
      exact ⟨rfl, QF.out⟩
end Go.Proofs.Ytkgfohodahkmmaa
