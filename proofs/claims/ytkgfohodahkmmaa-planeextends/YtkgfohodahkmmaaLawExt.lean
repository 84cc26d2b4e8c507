/- What is said of planes extended: the walk. -/
import Derived.Test.YtkgfohodahkmmaaRmF
namespace Go.Proofs.Ytkgfohodahkmmaa
open Go.RowKit
set_option linter.unusedVariables false
set_option linter.unusedSimpArgs false

set_option maxHeartbeats 8000000 in
set_option maxRecDepth 100000 in
theorem extends_walk (W H : Int) (sv : Value) (S : List Nat) (kk l t r1 b1 : Int) (w : World) (hS : USl w sv S) (hn : S.length ≤ 35184372087808) :
    Calls Try.prog 6 #[.agg #[.int .i64 W, .int .i64 H, sv], .int .i64 kk, .int .i64 l, .int .i64 t, .int .i64 r1, .int .i64 b1] w fun e w' => e = .returned (.bool true) ∧ Q w w' := by
  obtain ⟨W', H', T, er, hT, CE0, CR0⟩ := both_ext W H S (by omega) kk l t r1 b1
  have CE : Hid (∀ w v, USl w v S → Calls Try.prog 35 #[.agg #[.int .i64 W, .int .i64 H, v], .int .i64 kk, .int .i64 l, .int .i64 t, .int .i64 r1, .int .i64 b1] w (Ans w W' H' T er)) := CE0
  have CR : Hid (∀ w v, USl w v S → Calls Try.prog 34 #[.agg #[.int .i64 W, .int .i64 H, v], .int .i64 kk, .int .i64 l, .int .i64 t, .int .i64 r1, .int .i64 b1] w (Ans w W' H' T er)) := CR0
  obtain ⟨a, cap, ev⟩ := hS.form
  subst ev
  obtain ⟨n, en⟩ : ∃ n, S.length = n := ⟨_, rfl⟩
  have HN : Hid (S.length = n) := en
  rw [en] at hS hn ⊢
  obtain ⟨w1, hw1⟩ : ∃ w1, w.alloc (.cells #[.int .i64 W, .int .i64 H, .slice a n cap] 25) = w1 := ⟨_, rfl⟩
  have Q1 : Hid (Q w w1) := by rw [← hw1]; exact (Q.refl w).cells _ _
  have Bp : Hid (IBox w1 w.heap.size W H (.slice a n cap)) := by rw [← hw1]; exact ⟨by simp [go_sem], by simp [go_sem], by simp [go_sem]⟩
  have HS : Hid (USl w (.slice a n cap) S) := hS
  have K := known_any w1
  clear hS en CE0 CR0
  go_enter Try.func6, Try.ntmps6
  go_wp2_with fail
  clear hw1
  refine K.mono ?_
  rintro e w2 ⟨rfl, k2⟩
  have Q2 : Hid (Q w w2) := Q1.out.trans k2
  have hk0 : w.heap.size < w2.heap.size := cell_in (Bp.out.next k2).c0
  have BK : Hid (Bk (fun _ => False) w.heap.size (w2.alloc (.cells #[.slice none 0 0, .slice none 0 0, .slice none 0 0, .slice none 0 0, .slice none 0 0, .slice none 0 0, .slice none 0 0, .slice none 0 0] 35)) w2.heap.size (.slice none 0 0) (.slice none 0 0) []) := book_new w2 w Q2.out.1.size
  obtain ⟨w3, hw3⟩ : ∃ w3, w2.alloc (.cells #[.slice none 0 0, .slice none 0 0, .slice none 0 0, .slice none 0 0, .slice none 0 0, .slice none 0 0, .slice none 0 0, .slice none 0 0] 35) = w3 := ⟨_, rfl⟩
  have hs3 : w3.heap.size = w2.heap.size + 1 := by rw [← hw3]; simp
  have q3 : Q w2 w3 := by rw [← hw3]; exact (Q.refl w2).cells _ _
  rw [hw3] at BK
  have RM : Hid (Rm w3.heap.size (w3.alloc (.cells #[.slice none 0 0, .slice none 0 0, .slice none 0 0, .slice none 0 0, .slice none 0 0, .slice none 0 0, .slice none 0 0, .slice none 0 0] 38)) w3.heap.size (.slice none 0 0) (.slice none 0 0) []) := room_new w3
  obtain ⟨w4, hw4⟩ : ∃ w4, w3.alloc (.cells #[.slice none 0 0, .slice none 0 0, .slice none 0 0, .slice none 0 0, .slice none 0 0, .slice none 0 0, .slice none 0 0, .slice none 0 0] 38) = w4 := ⟨_, rfl⟩
  have q4 : Q w3 w4 := by rw [← hw4]; exact (Q.refl w3).cells _ _
  rw [hw4] at RM
  replace Bp : Hid (IBox w4 w.heap.size W H (.slice a n cap)) := ((Bp.out.next k2).next q3).next q4
  replace BK := BK.out.next q4
  have BK4 : Hid (Bk (fun _ => False) w.heap.size w4 w2.heap.size (.slice none 0 0) (.slice none 0 0) []) := BK
  have Q3 : Hid (Q w w3) := Q2.out.trans q3
  have Q34 : Hid (Q w3 w4) := q4
  obtain ⟨kb, hkb⟩ : ∃ kb, w2.heap.size = kb := ⟨_, rfl⟩
  have hs3' : w3.heap.size = kb + 1 := by rw [← hkb]; exact hs3
  rw [hkb] at BK4
  have RM' : Hid (Rm w3.heap.size w4 (kb + 1) (.slice none 0 0) (.slice none 0 0) []) := by have := RM.out; rw [← hs3']; exact this
  have A := room_plane w3 w4 q4 (kb + 1) RM'.out (by simp) W H (.slice a n cap) S (HS.out.next (Q3.out.trans q4)) (by rw [HN.out]; exact hn)
  obtain ⟨x0, x1, x2⟩ := id Bp.out
  have HK : Hid (w.heap.size < kb ∧ w3.heap.size = kb + 1 ∧ kb + 1 < w4.heap.size) := ⟨by omega, hs3', cell_in RM'.out.c0⟩
  clear K k2 BK q3 q4
  go_wp2_with fail
  clear hw3 hw4 hs3 hs3' hkb RM RM'
  refine A.mono ?_
  rintro e w5 ⟨g, n', hh, cap', sv', wv', rfl, hn', q5, hg, RM5, FR5, BL5⟩
  have hn'' : n' = n := by rw [hn']; exact HN.out
  subst hn''
  have US5 : Hid (USl w5 (.slice (some ⟨g, 0, none⟩) n' (n' + 5)) S) := by
    have := ((RM5.out.it _ (List.mem_append_right _ (List.mem_singleton.2 rfl))).2.1).us
    have h2 := (lentL_us this).usl (cap := n' + 5) (by rw [HN.out]; omega)
    rw [HN.out] at h2
    exact h2
  have BK5 : Hid (Bk (fun _ => False) w.heap.size w5 kb (.slice none 0 0) (.slice none 0 0) []) := BK4.out.keep FR5.out (fun b hb => by
    rcases hb with e | e | e | ⟨x, hx, _⟩
    · exact ⟨by omega, (fun e => by cases e), (fun e => by cases e)⟩
    · cases e
    · cases e
    · cases hx)
  have hkk := HK.out.1
  have B5 : Hid (IBox w5 w.heap.size W H (.slice a n' cap)) := Bp.out.fr FR5.out ⟨by omega, (fun e => by cases e), (fun e => by cases e)⟩
  have Q5 : Hid (Q w3 w5) := q5
  have hk5 : kb < w5.heap.size := cell_in BK5.out.c0
  have hg5 : kb + 1 < g := by have := HK.out.2.2; omega
  obtain ⟨w6, hw6⟩ : ∃ w6, w5.alloc (.cells #[.int .i64 W, .int .i64 H, .slice (some ⟨g, 0, none⟩) n' (n' + 5)] 25) = w6 := ⟨_, rfl⟩
  have q6 : Q w5 w6 := by rw [← hw6]; exact (Q.refl _).cells _ _
  have B6 : Hid (IBox w6 w5.heap.size W H (.slice (some ⟨g, 0, none⟩) n' (n' + 5))) := by rw [← hw6]; exact ⟨by simp [go_sem], by simp [go_sem], by simp [go_sem]⟩
  have B6p : Hid (IBox w6 w.heap.size W H (.slice a n' cap)) := B5.out.next q6
  have QT : Hid (Q w w6) := Q3.out.trans (q5.trans q6)
  obtain ⟨VA, hVA⟩ : ∃ VA, w5.heap.size = VA := ⟨_, rfl⟩
  rw [hVA] at B6
  have hVA1 : kb < VA := by omega
  obtain ⟨y0, y1, y2⟩ := id B6p.out
  have Q56 : Hid (Q w5 w6) := q6
  clear A x0 x1 x2 hn' q5 q6 FR5 BL5
  go_wp2_with fail
  clear hw6 hVA
  refine (CR.out w6 _ (HS.out.next QT.out)).mono ?_
  rintro e w7 ⟨ra, rn, rc, rfl, q7, us7, new7, n7⟩
  obtain ⟨w8, hw8⟩ : ∃ w8, w7.alloc (.cells #[.int .i64 W', .int .i64 H', .slice ra rn rc] 25) = w8 := ⟨_, rfl⟩
  have q8 : Q w7 w8 := by rw [← hw8]; exact (Q.refl _).cells _ _
  have BR : Hid (IBox w8 w7.heap.size W' H' (.slice ra rn rc)) := by rw [← hw8]; exact ⟨by simp [go_sem], by simp [go_sem], by simp [go_sem]⟩
  have q68 : Q w6 w8 := q7.out.trans q8
  have BA : Hid (IBox w8 VA W H (.slice (some ⟨g, 0, none⟩) n' (n' + 5))) := B6.out.next q68
  have USA : Hid (USl w8 (.slice (some ⟨g, 0, none⟩) n' (n' + 5)) S) := US5.out.next (Q56.out.trans q68)
  have USR : Hid (USl w8 (.slice ra rn rc) T) := us7.out.next q8
  have BKB : Hid (Bk (fun b => b < w8.heap.size ∧ b ≠ kb) w.heap.size w8 kb (.slice none 0 0) (.slice none 0 0) []) := (BK5.out.next (Q56.out.trans q68)).all
  have RMB : Hid (Rm w3.heap.size w8 (kb + 1) sv' wv' [⟨g, hh, cap', lentL S⟩]) := RM5.out.next (Q56.out.trans q68)
  have QB : Hid (Q w w8) := QT.out.trans q68
  obtain ⟨VR, hVR⟩ : ∃ VR, w7.heap.size = VR := ⟨_, rfl⟩
  rw [hVR] at BR
  have HV : Hid (VA < w8.heap.size ∧ kb < VA ∧ VR < w8.heap.size ∧ kb < VR ∧ kb < g ∧ g < w8.heap.size ∧ (∀ b, (Value.slice ra rn rc).ownBlock = some b → b < w8.heap.size ∧ b ≠ kb)) := by
    have h6 : VA < w6.heap.size := cell_in B6.out.c0
    have h7 := q7.out.1.size
    have h8 : VR < w8.heap.size := cell_in BR.out.c0
    have h9 := ((RMB.out.it _ (List.mem_singleton.2 rfl)).2.1).lt
    refine ⟨cell_in BA.out.c0, hVA1, h8, by omega, by omega, h9, fun b hb => ?_⟩
    have hb2 := new7.out.blk hb
    have := q8.1.size
    exact ⟨by omega, by omega⟩
  clear B6 B6p US5 us7 new7 RM5 BK5 q7 q8 q68 y0 y1 y2 QT Q56 Q5 B5 BK4 Bp Q1 Q2 CR hg hg5 hk5 hkk
  go_wp2_with fail
  clear hw8 hVR
  go_loopg [18] 2 (fun m s18 wx => ∃ (i : Nat) (bs bm : Value) (L : List Kept), s18 = .int .i64 i ∧ i + m = 2 ∧ L.length = i ∧ Hid (Q w wx) ∧ Hid (Fr w8 wx (fun b => b < w8.heap.size ∧ b ≠ kb)) ∧ Hid (Bk (fun b => b < w8.heap.size ∧ b ≠ kb) w.heap.size wx kb bs bm L))
  case atStart => exact ⟨0, _, _, [], rfl, rfl, rfl, QB, Fr.refl _ _, BKB⟩
  case round =>
    obtain ⟨i, bs, bm, L, rfl, him, hLi, HQ, HF, HB⟩ := hrel
    have bA : Hid (IBox wr VA W H (.slice (some ⟨g, 0, none⟩) n' (n' + 5))) := BA.out.fr HF.out ⟨HV.out.1, by have := HV.out.2.1; omega⟩
    have bR : Hid (IBox wr VR W' H' (.slice ra rn rc)) := BR.out.fr HF.out ⟨HV.out.2.2.1, by have := HV.out.2.2.2.1; omega⟩
    have uA : Hid (USl wr (.slice (some ⟨g, 0, none⟩) n' (n' + 5)) S) := usl_fr USA.out HF.out (fun b hb => by
      injection hb with hb
      have hb : g = b := hb
      have := HV.out
      exact ⟨by omega, by omega⟩)
    have uR : Hid (USl wr (.slice ra rn rc) T) := usl_fr USR.out HF.out HV.out.2.2.2.2.2.2
    by_cases hi : i < 2
    · have hi0 : (0 : Int) ≤ (i : Int) := by omega
      have hi1 : (i : Int) < 2 := by omega
      have HLi : Hid (L.length = i) := hLi
      clear hLi
      obtain ⟨y0, y1, y2⟩ := id bA.out
      go_wp2_with fail
      refine (CE.out wr _ uA.out).mono ?_
      rintro e v1 ⟨ea, en, ec, rfl, q1, us1, new1, n1⟩
      obtain ⟨v2, hv2⟩ : ∃ v2, v1.alloc (.cells #[.int .i64 W', .int .i64 H', .slice ea en ec] 25) = v2 := ⟨_, rfl⟩
      have q2 : Q v1 v2 := by rw [← hv2]; exact (Q.refl _).cells _ _
      have bL : Hid (IBox v2 v1.heap.size W' H' (.slice ea en ec)) := by rw [← hv2]; exact ⟨by simp [go_sem], by simp [go_sem], by simp [go_sem]⟩
      have q12 : Q wr v2 := q1.out.trans q2
      have bR2 : Hid (IBox v2 VR W' H' (.slice ra rn rc)) := bR.out.next q12
      have NEW2 : Hid (New wr v2 (.slice ea en ec) en) := new1.out.next q2
      have SA : Hid (Calls Try.prog 15 #[.agg #[.int .i64 W', .int .i64 H', .slice ea en ec], .int .i64 er, .agg #[.int .i64 W', .int .i64 H', .slice ra rn rc], .int .i64 er] v2 fun e w' => e = .returned (.bool true) ∧ Q v2 w') := same_yes W' H' _ _ er T v2 (us1.out.next q2) (uR.out.next q12) (by omega)
      have Q12 : Hid (Q wr v2) := q12
      obtain ⟨VL, hVL⟩ : ∃ VL, v1.heap.size = VL := ⟨_, rfl⟩
      rw [hVL] at bL
      obtain ⟨z0, z1, z2⟩ := id bL.out
      obtain ⟨u0, u1, u2⟩ := id bR2.out
      clear y0 y1 y2 q1 us1 new1 q2 q12
      go_wp2_with fail
      clear hv2 hVL
      refine SA.out.mono ?_
      rintro e v3 ⟨rfl, q3⟩
      replace z0 := q3.cell z0
      replace z1 := q3.cell z1
      replace z2 := q3.cell z2
      have Q13 : Hid (Q wr v3) := Q12.out.trans q3
      have NEW3 : Hid (New wr v3 (.slice ea en ec) en) := NEW2.out.next q3
      have BP := book_plane w wr v3 (HQ.out.trans Q13.out) Q13.out kb HB.out (by rw [HLi.out]; omega) W' H' (.slice ea en ec) en i NEW3.out n1 (by omega)
      clear u0 u1 u2 SA q3
      go_wp2_with fail
      refine BP.mono ?_
      rintro e v4 ⟨rfl, bs', bm', x, q4, b4, f4⟩
      have F4 : Hid (Fr w8 v4 (fun b => b < w8.heap.size ∧ b ≠ kb)) := (HF.out.trans (Q13.out.fr _)).trans f4.out
      have HL4 : Hid ((L ++ [x]).length = i + 1) := by show _ = _; rw [List.length_append, HLi.out]; rfl
      clear BP
      go_wp2_with fail
      go_roundg (2 - (i + 1))
      case measure => go_light; omega
      case rel => go_light; exact ⟨i + 1, bs', bm', L ++ [x], by go_num, by omega, HL4.out, q4, F4, b4⟩
    · have hie : i = 2 := by omega
      have BH := book_hold _ wr kb HB.out (by omega)
      have RMW : Hid (Rm w3.heap.size wr (kb + 1) sv' wv' [⟨g, hh, cap', lentL S⟩]) := RMB.out.keep HF.out (fun b hb => by
        have h1 := RMB.out.lt hb
        have h2 := HK.out.2.1
        exact ⟨h1.2, by omega⟩)
      have HNL : Hid (∀ x ∈ [(⟨g, hh, cap', lentL S⟩ : Lend)], x.V.length ≤ 35184372087813) := fun x hx => by
        rw [List.mem_singleton] at hx
        subst hx
        show (lentL S).length ≤ _
        rw [lentL_length, HN.out]
        omega
      clear hLi
      go_wp2_with fail
      refine BH.mono ?_
      rintro e v1 ⟨rfl, q1⟩
      have RH := room_hold _ v1 (kb + 1) (RMW.out.next q1) (by simp) HNL.out
      have QE : Hid (Q w v1) := HQ.out.trans q1
      clear BH
      go_wp2_with fail
      refine RH.mono ?_
      rintro e v2 ⟨rfl, q2⟩
      have QF : Hid (Q w v2) := QE.out.trans q2
      go_wp2_with fail
      go_ret
      exact ⟨rfl, QF.out⟩
end Go.Proofs.Ytkgfohodahkmmaa
