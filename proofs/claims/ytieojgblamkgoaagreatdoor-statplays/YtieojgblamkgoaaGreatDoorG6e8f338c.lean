/- The statement StatPlays: its walk. (gen_play.py) -/
import Derived.Test.YtieojgblamkgoaaGreatDoorGe9b56fbb
import Derived.Test.YtieojgblamkgoaaGreatDoorG14462af6
import Derived.Test.YtieojgblamkgoaaGreatDoorG804127ab
import Derived.Test.YtieojgblamkgoaaGreatDoorG28b2403f
namespace Go.Proofs.YtieojgblamkgoaaGreatDoor
open Go.RowKit
set_option linter.unusedVariables false
set_option linter.unusedSimpArgs false

/-- A list of samples, not too long. -/
structure SmL (n : Nat) (L : List Nat) : Prop where
  len : L.length ≤ n
  lt : ∀ i, L.getD i 0 < 4294967296
theorem SmL.nil (n : Nat) : SmL n [] := ⟨Nat.zero_le _, fun i => by show 0 < _; decide⟩
theorem SmL.app {n m : Nat} {L M : List Nat} (h : SmL n L) (k : SmL m M) : SmL (n + m) (L ++ M) := by
  refine ⟨by rw [List.length_append]; exact Nat.add_le_add h.len k.len, fun i => ?_⟩
  rw [List.getD_eq_getElem?_getD, List.getElem?_append]
  split
  · have := h.lt i
    rw [List.getD_eq_getElem?_getD] at this
    exact this
  · have := k.lt (i - L.length)
    rw [List.getD_eq_getElem?_getD] at this
    exact this
theorem SmL.mono {n m : Nat} {L : List Nat} (h : SmL n L) (k : n ≤ m) : SmL m L := ⟨Nat.le_trans h.len k, h.lt⟩
theorem SmL.to {n m : Nat} {L : List Nat} (h : SmL n L) (k : L.length ≤ m) : SmL m L := ⟨k, h.lt⟩
theorem Qb.tab {w w' : World} (q : Qb w w') (h : Tab w) : Tab w' := fun j hj => q.cell (h j hj)
theorem none_own {g : Nat} {n c : Nat} (h : (Value.slice none n c).ownBlock = some g) : False := by cases h
theorem bits_next {b : Nat} (h1 : 1 ≤ b) (h2 : b ≤ 12) : ∃ b' : Nat, Hid ((b : Int) % 12 + 1 = (b' : Int)) ∧ 1 ≤ b' ∧ b' ≤ 12 ∧ b ≠ b' := by
  refine ⟨b % 12 + 1, ?_, by omega, by omega, by omega⟩
  show (b : Int) % 12 + 1 = _
  omega
set_option maxHeartbeats 16000000 in
set_option maxRecDepth 100000 in
theorem splays_walk (W0 : World) (bits : Int) (lv : Value) (D : List OpD) (hD : OSl W0 lv D) (hml : D.length ≤ 9223372036854775807) (hT : Tab W0) :
    Calls Tryz.prog 3 #[.int .i64 bits, lv] W0 fun e w' => e = .returned (.bool true) ∧ Qb W0 w' := by
  obtain ⟨ad, c, rfl⟩ := hD.form
  obtain ⟨n, hn⟩ : ∃ n, D.length = n := ⟨_, rfl⟩
  rw [hn] at hD hml ⊢
  have HK : Hid (Calls Tryz.prog 9 #[] W0 fun e w' => e = .returned (.bool true) ∧ Qb W0 w') := known16_any W0 hT
  have HD0 : Hid (OSl W0 (.slice ad n c) D) := hD
  have HT0 : Hid (Tab W0) := hT
  clear hD hT
  go_enter Tryz.func3, Tryz.ntmps3
  go_wp2_with fail
  refine Calls.mono HK.out ?_
  rintro e w1 ⟨rfl, q1⟩
  have HQ1 : Hid (Qb W0 w1) := q1
  have HD1 : Hid (OSl w1 (.slice ad n c) D) := HD0.out.nextB q1
  have HTb : Hid (Tab w1) := q1.tab HT0.out
  clear q1 HK HD0 HT0
  by_cases h40 : (40 : Int) < (n : Int)
  · go_wp2_with fail
    go_ret
    exact ⟨rfl, HQ1.out⟩
  go_wp2_with fail
  go_loopg [5] n (fun m s5 wr => ∃ i : Nat, s5 = .int .i64 (i : Int) ∧ i + m = n ∧ Hid ((∀ (j : Nat) (x : OpD), j < i → D[j]? = some x → x.S.length ≤ 600) ∧ wr = w1))
  case atStart => exact ⟨0, rfl, by omega, fun j x h => absurd h (by omega), rfl⟩
  case round =>
    obtain ⟨i, rfl, hi, HX⟩ := hrel
    obtain rfl : w1 = wr := HX.out.2.symm
    by_cases hlt : i < n
    · obtain ⟨hl, g, o, x, e, hcap, hx, hit⟩ := HD1.out.at hlt
      subst e
      have hki : (i : Int) < (n : Int) := by omega
      have c4 : w1.cell? ⟨g, o + i * 9 + 2 + 2, none⟩ = some (.slice x.ad x.S.length x.cap) := hit.c4
      have HXx : Hid (D[i]? = some x) := hx
      clear hit hx
      by_cases h6 : (600 : Int) < (x.S.length : Int)
      · go_wp2_with fail
        go_ret
        exact ⟨rfl, HQ1.out⟩
      · go_wp2_with fail
        go_roundg (n - (i + 1))
        case measure => go_light; omega
        case rel =>
          go_light
          refine ⟨i + 1, by go_num, by omega, fun j y hj hy => ?_, rfl⟩
          rcases Nat.lt_or_ge j i with h | h
          · exact HX.out.1 j y h hy
          · obtain rfl : j = i := by omega
            have := HXx.out
            rw [hy] at this
            injection this with this
            subst this
            omega
    · obtain rfl : n = i := by omega
      have hge : ¬ (n : Int) < (n : Int) := by omega
      have HS6 : Hid (∀ (j : Nat) (x : OpD), D[j]? = some x → x.S.length ≤ 600) := fun j x hx => HX.out.1 j x (by have := (List.getElem?_eq_some_iff.1 hx).1; omega) hx
      clear HX
      cases hB : bitsB bits
      · have KN := snew_bad bits hB
        have KI := isd16_any bits
        rw [hB] at KI
        go_wp2_with fail
        refine Calls.mono (KN _) ?_
        rintro e w2 ⟨rfl, hw⟩
        obtain rfl := hw.symm
        clear hw
        go_wp2_with fail
        refine Calls.mono (KN _) ?_
        rintro e w3 ⟨rfl, hw⟩
        obtain rfl := hw.symm
        clear hw
        go_wp2_with fail
        refine Calls.mono (KI _) ?_
        rintro e w4 ⟨rfl, hw⟩
        obtain rfl := hw.symm
        clear hw KN KI
        go_wp2_with fail
        go_ret
        exact ⟨by first | rfl | simp, HQ1.out⟩
      have KI := isd16_any bits
      rw [hB] at KI
      obtain ⟨hb1, hb2⟩ : 1 ≤ bits ∧ bits ≤ 12 := by unfold bitsB at hB; exact of_decide_eq_true hB
      obtain ⟨b, rfl⟩ : ∃ b : Nat, bits = b := ⟨bits.toNat, by omega⟩
      have HB : Hid (1 ≤ b ∧ b ≤ 12) := by show _ ∧ _; omega
      clear hB hb1 hb2
      go_wp2_with fail
      refine Calls.mono (snew_good b HB.out.1 HB.out.2 _) ?_
      rintro e w2 ⟨Pa, Aa, Ha, ka, rfl, la1, la2, la3, hsa, q2⟩
      have HA2 : Hid ((w1.heap.size ≤ Pa ∧ w1.heap.size ≤ Aa ∧ w1.heap.size ≤ Ha) ∧ StAt w2 Pa Aa Ha b ka [] ∧ Q w1 w2) := ⟨⟨la1, la2, la3⟩, hsa, q2⟩
      clear la1 la2 la3 hsa q2
      go_wp2_with fail
      refine Calls.mono (snew_good b HB.out.1 HB.out.2 _) ?_
      rintro e w3 ⟨Pb, Ab, Hb, kb, rfl, lb1, lb2, lb3, hsb, q3⟩
      have HTz : Hid (Two w1 w3 b Pa Aa Ha ka [] [] (.slice none 0 0) Pb Ab Hb kb [] [] (.slice none 0 0)) := by
        have z := HA2.out.2.2.1.size
        have l := HA2.out.2.1.lt
        have q := HA2.out.2.2.trans q3
        exact ⟨q, HA2.out.2.1.next q3, hsb, OwnR.start _ _ q, OwnR.start _ _ q, HA2.out.1, ⟨by omega, by omega, by omega⟩, ⟨⟨by omega, by omega, by omega⟩, ⟨by omega, by omega, by omega⟩, ⟨by omega, by omega, by omega⟩⟩, fun g h => (none_own h).elim, fun g h => (none_own h).elim, fun g h => (none_own h).elim⟩
      clear HA2 lb1 lb2 lb3 hsb q3
      go_wp2_with fail
      refine Calls.mono (KI _) ?_
      rintro e w4 ⟨rfl, hw⟩
      obtain rfl := hw.symm
      clear hw KI
      go_wp2_with fail
      go_loopg [6, 8, 10, 11, 12] n (fun m s6 s8 s10 s11 s12 wr => ∃ (i Pa Aa Ha ka : Nat) (La : List Nat) (va : Value) (Pb Ab Hb kb : Nat) (Lb : List Nat) (vb : Value), s6 = .pointer (some ⟨Pa, 0, none⟩) ∧ s8 = .pointer (some ⟨Pb, 0, none⟩) ∧ s10 = va ∧ s11 = vb ∧ s12 = .int .i64 (i : Int) ∧ i + m = n ∧ Hid (Two w1 wr b Pa Aa Ha ka La La va Pb Ab Hb kb Lb Lb vb ∧ SmL 3000 La ∧ SmL 3000 Lb))
      case atStart => exact ⟨0, Pa, Aa, Ha, ka, [], _, Pb, Ab, Hb, kb, [], _, rfl, rfl, rfl, rfl, rfl, by omega, HTz.out, SmL.nil _, SmL.nil _⟩
      case round =>
        clear HTz
        obtain ⟨i, Pa, Aa, Ha, ka, La, va, Pb, Ab, Hb, kb, Lb, vb, rfl, rfl, rfl, rfl, rfl, hi, HX⟩ := hrel
        obtain ⟨va, ca, e⟩ := HX.out.1.oa.form
        subst e
        obtain ⟨vb, cb, e⟩ := HX.out.1.ob.form
        subst e
        have HTw : Hid (Two w1 wr b Pa Aa Ha ka La La (.slice va La.length ca) Pb Ab Hb kb Lb Lb (.slice vb Lb.length cb)) := HX.out.1
        have HSa : Hid (SmL 3000 La) := HX.out.2.1
        have HSb : Hid (SmL 3000 Lb) := HX.out.2.2
        clear HX
        by_cases hlt : i < n
        · obtain ⟨hl, g, o, x, e, hcap, hx, hit⟩ := HD1.out.at hlt
          subst e
          have hS6 := HS6.out i x hx
          have hit2 := hit.nextB HTw.out.q.qb
          obtain ⟨kd, wh, pw, ph, ad2, cp2, S, x0, y0, x1, y1⟩ := x
          have d0 : wr.cell? ⟨g, o + i * 9, none⟩ = some (.int .i64 kd) := hit2.c0
          have d1 : wr.cell? ⟨g, o + i * 9 + 1, none⟩ = some (.int .i64 wh) := hit2.c1
          have d2 : wr.cell? ⟨g, o + i * 9 + 2, none⟩ = some (.int .i64 pw) := hit2.c2
          have d3 : wr.cell? ⟨g, o + i * 9 + 3, none⟩ = some (.int .i64 ph) := hit2.c3
          have d4 : wr.cell? ⟨g, o + i * 9 + 4, none⟩ = some (.slice ad2 S.length cp2) := hit2.c4
          have d5 : wr.cell? ⟨g, o + i * 9 + 5, none⟩ = some (.int .i64 x0) := hit2.c5
          have d6 : wr.cell? ⟨g, o + i * 9 + 6, none⟩ = some (.int .i64 y0) := hit2.c6
          have d7 : wr.cell? ⟨g, o + i * 9 + 7, none⟩ = some (.int .i64 x1) := hit2.c7
          have d8 : wr.cell? ⟨g, o + i * 9 + 8, none⟩ = some (.int .i64 y1) := hit2.c8
          have hki : (i : Int) < (n : Int) := by omega
          have HU1 : Hid (USl w1 (.slice ad2 S.length cp2) S) := hit.us
          obtain ⟨wo, hwo⟩ : ∃ wo, wr.alloc (.cells #[.int .i64 kd, .int .i64 wh, .int .i64 pw, .int .i64 ph, .slice ad2 S.length cp2, .int .i64 x0, .int .i64 y0, .int .i64 x1, .int .i64 y1] 30) = wo := ⟨_, rfl⟩
          obtain ⟨B, hB⟩ : ∃ B, wr.heap.size = B := ⟨_, rfl⟩
          have qo : Q wr wo := by rw [← hwo]; exact (Q.refl wr).cells _ _
          have e0 : wo.cell? ⟨B, 0, none⟩ = some (.int .i64 kd) := by rw [← hwo, ← hB]; simp [go_sem]
          have e1 : wo.cell? ⟨B, 1, none⟩ = some (.int .i64 wh) := by rw [← hwo, ← hB]; simp [go_sem]
          have e2 : wo.cell? ⟨B, 2, none⟩ = some (.int .i64 pw) := by rw [← hwo, ← hB]; simp [go_sem]
          have e3 : wo.cell? ⟨B, 3, none⟩ = some (.int .i64 ph) := by rw [← hwo, ← hB]; simp [go_sem]
          have e4 : wo.cell? ⟨B, 4, none⟩ = some (.slice ad2 S.length cp2) := by rw [← hwo, ← hB]; simp [go_sem]
          have e5 : wo.cell? ⟨B, 5, none⟩ = some (.int .i64 x0) := by rw [← hwo, ← hB]; simp [go_sem]
          have e6 : wo.cell? ⟨B, 6, none⟩ = some (.int .i64 y0) := by rw [← hwo, ← hB]; simp [go_sem]
          have e7 : wo.cell? ⟨B, 7, none⟩ = some (.int .i64 x1) := by rw [← hwo, ← hB]; simp [go_sem]
          have e8 : wo.cell? ⟨B, 8, none⟩ = some (.int .i64 y1) := by rw [← hwo, ← hB]; simp [go_sem]
          have HTo : Hid (Two w1 wo b Pa Aa Ha ka La La (.slice va La.length ca) Pb Ab Hb kb Lb Lb (.slice vb Lb.length cb)) := HTw.out.next qo
          have HUS : Hid (USl wo (.slice ad2 S.length cp2) S) := hit2.us.next qo
          have HSs : Hid (SmL 600 S) := ⟨hS6, hit.lt⟩
          have HBx : Hid ((stB Pa Aa Ha B ∧ (Value.slice va La.length ca).ownBlock ≠ some B) ∧ (stB Pb Ab Hb B ∧ (Value.slice vb Lb.length cb).ownBlock ≠ some B)) := by
            have l1 := HTw.out.sa.lt
            have l2 := HTw.out.sb.lt
            exact ⟨⟨⟨by omega, by omega, by omega⟩, fun e => by have := (HTw.out.oa.blk e).2; omega⟩, ⟨⟨by omega, by omega, by omega⟩, fun e => by have := (HTw.out.ob.blk e).2; omega⟩⟩
          clear hit hit2 qo HTw hx hS6 hl
          have bx := e1
          by_cases hW : wh = 1
          · subst hW
            by_cases k1 : kd = 1
            · have n1 : (kd == 1) = true := by rw [k1]; rfl
              clear k1
              have HT : Hid (Two w1 wo b Pb Ab Hb kb Lb Lb (.slice vb Lb.length cb) Pa Aa Ha ka La La (.slice va La.length ca)) := HTo.out.swap
              have HL1 : Hid (SmL 3000 Lb) := HSb.out
              have HL2 : Hid (SmL 3000 La) := HSa.out
              have HB1 : Hid (stB Pb Ab Hb B ∧ (Value.slice vb Lb.length cb).ownBlock ≠ some B) := HBx.out.2
              clear HTo HSa HSb HBx
              have KA := sadds_any Pb Ab Hb b kb Lb ⟨kd, 1, pw, ph, ad2, cp2, S, x0, y0, x1, y1⟩ wo  HT.out.sa HUS.out HSs.out.lt HSs.out.len (fun g o h e => by subst e; exact stB_low HT.out.ba (usl_lt HU1.out h)) (by have := HL1.out.len; omega)
              simp only [OpD.v] at KA
              go_wp2_with fail
              clear hwo
              refine Calls.mono KA ?_
              rintro e w4 ⟨M, mad, mc, rfl, hu, hml, hmb, hs, f⟩
              clear KA
              have bx := f.cell bx HB1.out.1
              have HT4 : Hid (Two w1 w4 b Pb Ab Hb kb (Lb ++ M) Lb (.slice vb Lb.length cb) Pa Aa Ha ka La La (.slice va La.length ca)) := HT.out.stat hs f
              have HM : Hid (SmL 6000 (Lb ++ M)) := SmL.mono (HL1.out.app ⟨hml, hmb⟩) (by omega)
              have hll := HL1.out.len
              clear hs f HT HUS HSs HU1 hmb
              have hl2 : ¬ (3000 : Int) < (La.length : Int) := by have := HL2.out.len; omega
              by_cases h3 : (3000 : Int) < ((Lb ++ M).length : Int)
              · go_wp2_with (at_builtin; go_must (refine wpList_addV _ w1 (by rfl) (.tmp 98) (.tmp 99) rfl (.slice vb Lb.length cb) Lb (by simp [Act.eval, Act.put]) HT4.out.oa mad M.length mc M (by simp [Act.eval, Act.put]) hu rfl (by omega) ?_; intro v' w5 hO hF hB; obtain ⟨v1', c1', rfl⟩ := hO.form; have bx := hF.cell bx HB1.out.2; have HT5 : Hid (Two w1 w5 b Pb Ab Hb kb (Lb ++ M) (Lb ++ M) (.slice v1' (Lb ++ M).length c1') Pa Aa Ha ka La La (.slice va La.length ca)) := HT4.out.list hO hF hB; clear hO hF hB hu HT4; generalize Lb ++ M = L9 at *))
                go_ret
                exact ⟨rfl, HQ1.out.trans HT5.out.q.qb⟩
              go_wp2_with (at_builtin; go_must (refine wpList_addV _ w1 (by rfl) (.tmp 98) (.tmp 99) rfl (.slice vb Lb.length cb) Lb (by simp [Act.eval, Act.put]) HT4.out.oa mad M.length mc M (by simp [Act.eval, Act.put]) hu rfl (by omega) ?_; intro v' w5 hO hF hB; obtain ⟨v1', c1', rfl⟩ := hO.form; have bx := hF.cell bx HB1.out.2; have HT5 : Hid (Two w1 w5 b Pb Ab Hb kb (Lb ++ M) (Lb ++ M) (.slice v1' (Lb ++ M).length c1') Pa Aa Ha ka La La (.slice va La.length ca)) := HT4.out.list hO hF hB; clear hO hF hB hu HT4; generalize Lb ++ M = L9 at *))
              skip
              have hl1 : L9.length ≤ 6000 := HM.out.len
              have K6 := tells_any Pb Ab Hb b kb L9 _ w5 HT5.out.sa HT5.out.oa.usl HM.out.lt (by omega) (HT5.out.q.tab HTb.out)
              have HK7 : Hid (∀ x, Q w5 x → _) := fun x q => tells_any Pa Aa Ha b ka La _ x (HT5.out.sb.next q) (HT5.out.ob.next q).usl HL2.out.lt (by have := HL2.out.len; omega) ((HT5.out.q.trans q).tab HTb.out)
              refine Calls.mono K6 ?_
              rintro e w6 ⟨rfl, q6⟩
              clear K6
              have bx := q6.cell bx
              have HT6 : Hid (Two w1 w6 b Pb Ab Hb kb L9 L9 _ Pa Aa Ha ka La La _) := HT5.out.next q6
              have K7 := HK7.out _ q6
              clear q6 HT5 HK7
              go_wp2_with fail
              refine Calls.mono K7 ?_
              rintro e w7 ⟨rfl, q7⟩
              clear K7
              have bx := q7.cell bx
              have HT7 : Hid (Two w1 w7 b Pb Ab Hb kb L9 L9 _ Pa Aa Ha ka La La _) := HT6.out.next q7
              clear q7 HT6
              go_wp2_with fail
              go_roundg (n - (i + 1))
              case measure => go_light; omega
              case rel => go_light; exact ⟨i + 1, Pa, Aa, Ha, ka, La, _, Pb, Ab, Hb, kb, L9, _, rfl, rfl, rfl, rfl, by go_num, by omega, HT7.out.swap, HL2.out, HM.out.to (by omega)⟩
            by_cases k2 : kd = 2
            · have n1 : (kd == 1) = false := by rw [beq_eq_false_iff_ne]; omega
              have n2 : (kd == 2) = true := by rw [k2]; rfl
              clear k1 k2
              have HT : Hid (Two w1 wo b Pb Ab Hb kb Lb Lb (.slice vb Lb.length cb) Pa Aa Ha ka La La (.slice va La.length ca)) := HTo.out.swap
              have HL1 : Hid (SmL 3000 Lb) := HSb.out
              have HL2 : Hid (SmL 3000 La) := HSa.out
              have HB1 : Hid (stB Pb Ab Hb B ∧ (Value.slice vb Lb.length cb).ownBlock ≠ some B) := HBx.out.2
              clear HTo HSa HSb HBx
              have KA := smerge_any Pb Ab Hb b kb Pa Aa Ha ka Lb La wo HT.out.sa HT.out.sb HT.out.ab.1.2.1 HT.out.ab.1.2.2 HT.out.ab.2.2.2.1 (by have := HL1.out.len; omega) (by have := HL2.out.len; omega)
              go_wp2_with fail
              clear hwo
              refine Calls.mono KA ?_
              rintro e w4 ⟨rfl, hs, f⟩
              clear KA
              have bx := f.cell bx HB1.out.1
              have HT4 : Hid (Two w1 w4 b Pb Ab Hb kb (Lb ++ La) Lb (.slice vb Lb.length cb) Pa Aa Ha ka La La (.slice va La.length ca)) := HT.out.stat hs f
              have HM : Hid (SmL 6000 (Lb ++ La)) := HL1.out.app HL2.out
              have hll := HL1.out.len
              have hll2 := HL2.out.len
              clear hs f HT HUS HSs HU1
              have hl2 : ¬ (3000 : Int) < (La.length : Int) := by have := HL2.out.len; omega
              by_cases h3 : (3000 : Int) < ((Lb ++ La).length : Int)
              · go_wp2_with (at_builtin; go_must (refine wpList_addV _ w1 (by rfl) (.tmp 107) (.tmp 108) rfl (.slice vb Lb.length cb) Lb (by simp [Act.eval, Act.put]) HT4.out.oa va La.length ca La (by simp [Act.eval, Act.put]) HT4.out.ob.usl rfl (by omega) ?_; intro v' w5 hO hF hB; obtain ⟨v1', c1', rfl⟩ := hO.form; have bx := hF.cell bx HB1.out.2; have HT5 : Hid (Two w1 w5 b Pb Ab Hb kb (Lb ++ La) (Lb ++ La) (.slice v1' (Lb ++ La).length c1') Pa Aa Ha ka La La (.slice va La.length ca)) := HT4.out.list hO hF hB; clear hO hF hB HT4; generalize Lb ++ La = L9 at *))
                go_ret
                exact ⟨rfl, HQ1.out.trans HT5.out.q.qb⟩
              go_wp2_with (at_builtin; go_must (refine wpList_addV _ w1 (by rfl) (.tmp 107) (.tmp 108) rfl (.slice vb Lb.length cb) Lb (by simp [Act.eval, Act.put]) HT4.out.oa va La.length ca La (by simp [Act.eval, Act.put]) HT4.out.ob.usl rfl (by omega) ?_; intro v' w5 hO hF hB; obtain ⟨v1', c1', rfl⟩ := hO.form; have bx := hF.cell bx HB1.out.2; have HT5 : Hid (Two w1 w5 b Pb Ab Hb kb (Lb ++ La) (Lb ++ La) (.slice v1' (Lb ++ La).length c1') Pa Aa Ha ka La La (.slice va La.length ca)) := HT4.out.list hO hF hB; clear hO hF hB HT4; generalize Lb ++ La = L9 at *))
              skip
              have hl1 : L9.length ≤ 6000 := HM.out.len
              have K6 := tells_any Pb Ab Hb b kb L9 _ w5 HT5.out.sa HT5.out.oa.usl HM.out.lt (by omega) (HT5.out.q.tab HTb.out)
              have HK7 : Hid (∀ x, Q w5 x → _) := fun x q => tells_any Pa Aa Ha b ka La _ x (HT5.out.sb.next q) (HT5.out.ob.next q).usl HL2.out.lt (by have := HL2.out.len; omega) ((HT5.out.q.trans q).tab HTb.out)
              refine Calls.mono K6 ?_
              rintro e w6 ⟨rfl, q6⟩
              clear K6
              have bx := q6.cell bx
              have HT6 : Hid (Two w1 w6 b Pb Ab Hb kb L9 L9 _ Pa Aa Ha ka La La _) := HT5.out.next q6
              have K7 := HK7.out _ q6
              clear q6 HT5 HK7
              go_wp2_with fail
              refine Calls.mono K7 ?_
              rintro e w7 ⟨rfl, q7⟩
              clear K7
              have bx := q7.cell bx
              have HT7 : Hid (Two w1 w7 b Pb Ab Hb kb L9 L9 _ Pa Aa Ha ka La La _) := HT6.out.next q7
              clear q7 HT6
              go_wp2_with fail
              go_roundg (n - (i + 1))
              case measure => go_light; omega
              case rel => go_light; exact ⟨i + 1, Pa, Aa, Ha, ka, La, _, Pb, Ab, Hb, kb, L9, _, rfl, rfl, rfl, rfl, by go_num, by omega, HT7.out.swap, HL2.out, HM.out.to (by omega)⟩
            by_cases k3 : kd = 3
            · have n1 : (kd == 1) = false := by rw [beq_eq_false_iff_ne]; omega
              have n2 : (kd == 2) = false := by rw [beq_eq_false_iff_ne]; omega
              have n3 : (kd == 3) = true := by rw [k3]; rfl
              clear k1 k2 k3
              have HT : Hid (Two w1 wo b Pb Ab Hb kb Lb Lb (.slice vb Lb.length cb) Pa Aa Ha ka La La (.slice va La.length ca)) := HTo.out.swap
              have HL1 : Hid (SmL 3000 Lb) := HSb.out
              have HL2 : Hid (SmL 3000 La) := HSa.out
              have HB1 : Hid (stB Pb Ab Hb B ∧ (Value.slice vb Lb.length cb).ownBlock ≠ some B) := HBx.out.2
              clear HTo HSa HSb HBx
              have KA := smerge_any Pb Ab Hb b kb Pb Ab Hb kb Lb Lb wo HT.out.sa HT.out.sa HT.out.sa.pa HT.out.sa.ph (fun e => HT.out.sa.ah e.symm) (by have := HL1.out.len; omega) (by have := HL1.out.len; omega)
              go_wp2_with fail
              clear hwo
              refine Calls.mono KA ?_
              rintro e w4 ⟨rfl, hs, f⟩
              clear KA
              have bx := f.cell bx HB1.out.1
              have HT4 : Hid (Two w1 w4 b Pb Ab Hb kb (Lb ++ Lb) Lb (.slice vb Lb.length cb) Pa Aa Ha ka La La (.slice va La.length ca)) := HT.out.stat hs f
              have HM : Hid (SmL 6000 (Lb ++ Lb)) := HL1.out.app HL1.out
              have hll := HL1.out.len
              clear hs f HT HUS HSs HU1
              have hl2 : ¬ (3000 : Int) < (La.length : Int) := by have := HL2.out.len; omega
              by_cases h3 : (3000 : Int) < ((Lb ++ Lb).length : Int)
              · go_wp2_with (at_builtin; first | (refine wpList_copyV _ (by rfl) (.tmp 117) rfl vb Lb.length cb Lb rfl (by omega) (by simp [Act.eval, Act.put]) HT4.out.oa.usl ?_; intro la lc w45 q45 hu; have bx := q45.cell bx; have HT45 : Hid (Two w1 w45 b Pb Ab Hb kb (Lb ++ Lb) Lb (.slice vb Lb.length cb) Pa Aa Ha ka La La (.slice va La.length ca)) := HT4.out.next q45; clear q45 HT4) | (refine wpList_addV _ w1 (by rfl) (.tmp 116) (.tmp 118) rfl (.slice vb Lb.length cb) Lb (by simp [Act.eval, Act.put]) HT45.out.oa la Lb.length lc Lb (by simp [Act.eval, Act.put]) hu rfl (by omega) ?_; intro v' w5 hO hF hB; obtain ⟨v1', c1', rfl⟩ := hO.form; have bx := hF.cell bx HB1.out.2; have HT5 : Hid (Two w1 w5 b Pb Ab Hb kb (Lb ++ Lb) (Lb ++ Lb) (.slice v1' (Lb ++ Lb).length c1') Pa Aa Ha ka La La (.slice va La.length ca)) := HT45.out.list hO hF hB; clear hO hF hB hu HT45; generalize Lb ++ Lb = L9 at *))
                go_ret
                exact ⟨rfl, HQ1.out.trans HT5.out.q.qb⟩
              go_wp2_with (at_builtin; first | (refine wpList_copyV _ (by rfl) (.tmp 117) rfl vb Lb.length cb Lb rfl (by omega) (by simp [Act.eval, Act.put]) HT4.out.oa.usl ?_; intro la lc w45 q45 hu; have bx := q45.cell bx; have HT45 : Hid (Two w1 w45 b Pb Ab Hb kb (Lb ++ Lb) Lb (.slice vb Lb.length cb) Pa Aa Ha ka La La (.slice va La.length ca)) := HT4.out.next q45; clear q45 HT4) | (refine wpList_addV _ w1 (by rfl) (.tmp 116) (.tmp 118) rfl (.slice vb Lb.length cb) Lb (by simp [Act.eval, Act.put]) HT45.out.oa la Lb.length lc Lb (by simp [Act.eval, Act.put]) hu rfl (by omega) ?_; intro v' w5 hO hF hB; obtain ⟨v1', c1', rfl⟩ := hO.form; have bx := hF.cell bx HB1.out.2; have HT5 : Hid (Two w1 w5 b Pb Ab Hb kb (Lb ++ Lb) (Lb ++ Lb) (.slice v1' (Lb ++ Lb).length c1') Pa Aa Ha ka La La (.slice va La.length ca)) := HT45.out.list hO hF hB; clear hO hF hB hu HT45; generalize Lb ++ Lb = L9 at *))
              skip
              have hl1 : L9.length ≤ 6000 := HM.out.len
              have K6 := tells_any Pb Ab Hb b kb L9 _ w5 HT5.out.sa HT5.out.oa.usl HM.out.lt (by omega) (HT5.out.q.tab HTb.out)
              have HK7 : Hid (∀ x, Q w5 x → _) := fun x q => tells_any Pa Aa Ha b ka La _ x (HT5.out.sb.next q) (HT5.out.ob.next q).usl HL2.out.lt (by have := HL2.out.len; omega) ((HT5.out.q.trans q).tab HTb.out)
              refine Calls.mono K6 ?_
              rintro e w6 ⟨rfl, q6⟩
              clear K6
              have bx := q6.cell bx
              have HT6 : Hid (Two w1 w6 b Pb Ab Hb kb L9 L9 _ Pa Aa Ha ka La La _) := HT5.out.next q6
              have K7 := HK7.out _ q6
              clear q6 HT5 HK7
              go_wp2_with fail
              refine Calls.mono K7 ?_
              rintro e w7 ⟨rfl, q7⟩
              clear K7
              have bx := q7.cell bx
              have HT7 : Hid (Two w1 w7 b Pb Ab Hb kb L9 L9 _ Pa Aa Ha ka La La _) := HT6.out.next q7
              clear q7 HT6
              go_wp2_with fail
              go_roundg (n - (i + 1))
              case measure => go_light; omega
              case rel => go_light; exact ⟨i + 1, Pa, Aa, Ha, ka, La, _, Pb, Ab, Hb, kb, L9, _, rfl, rfl, rfl, rfl, by go_num, by omega, HT7.out.swap, HL2.out, HM.out.to (by omega)⟩
            by_cases k4 : kd = 4
            · have n1 : (kd == 1) = false := by rw [beq_eq_false_iff_ne]; omega
              have n2 : (kd == 2) = false := by rw [beq_eq_false_iff_ne]; omega
              have n3 : (kd == 3) = false := by rw [beq_eq_false_iff_ne]; omega
              have n4 : (kd == 4) = true := by rw [k4]; rfl
              clear k1 k2 k3 k4
              have HT : Hid (Two w1 wo b Pb Ab Hb kb Lb Lb (.slice vb Lb.length cb) Pa Aa Ha ka La La (.slice va La.length ca)) := HTo.out.swap
              have HL1 : Hid (SmL 3000 Lb) := HSb.out
              have HL2 : Hid (SmL 3000 La) := HSa.out
              have HB1 : Hid (stB Pb Ab Hb B ∧ (Value.slice vb Lb.length cb).ownBlock ≠ some B) := HBx.out.2
              clear HTo HSa HSb HBx
              have KC := scopy_any Pb Ab Hb b kb Lb wo HT.out.sa
              have HKA : Hid (∀ x, Q wo x → _) := fun x q => sadds_any Pb Ab Hb b kb Lb ⟨kd, 1, pw, ph, ad2, cp2, S, x0, y0, x1, y1⟩ x  (HT.out.sa.next q) (HUS.out.next q) HSs.out.lt HSs.out.len (fun g o h e => by subst e; exact stB_low HT.out.ba (usl_lt HU1.out h)) (by have := HL1.out.len; omega)
              simp only [OpD.v] at HKA
              go_wp2_with fail
              clear hwo
              refine Calls.mono KC ?_
              rintro e w4 ⟨P9, A9, H9, k9, rfl, hs, hlo, q4⟩
              clear KC
              have e0 := q4.cell e0
              have e1 := q4.cell e1
              have e2 := q4.cell e2
              have e3 := q4.cell e3
              have e4 := q4.cell e4
              have e5 := q4.cell e5
              have e6 := q4.cell e6
              have e7 := q4.cell e7
              have e8 := q4.cell e8
              have KA := HKA.out _ q4
              have HN4 : Hid (StAt w4 P9 A9 H9 b k9 Lb ∧ (wo.heap.size ≤ P9 ∧ wo.heap.size ≤ A9 ∧ wo.heap.size ≤ H9) ∧ Q wo w4) := ⟨hs, hlo, q4⟩
              clear hs hlo q4 HKA
              go_wp2_with fail
              refine Calls.mono KA ?_
              rintro e w5 ⟨M, mad, mc, rfl, hu, hml, hmb, hs5, f⟩
              clear KA hu hml hmb hs5
              have bx := f.cell e1 HB1.out.1
              have HT5 : Hid (Two w1 w5 b P9 A9 H9 k9 Lb Lb (.slice vb Lb.length cb) Pa Aa Ha ka La La (.slice va La.length ca)) := HT.out.old HN4.out.2.2 HN4.out.1 HN4.out.2.1 f
              have HM : Hid (SmL 6000 Lb) := SmL.mono HL1.out (by omega)
              clear f e0 e1 e2 e3 e4 e5 e6 e7 e8 HT HN4 HUS HSs HU1
              have hl2 : ¬ (3000 : Int) < (La.length : Int) := by have := HL2.out.len; omega
              by_cases h3 : (3000 : Int) < ((Lb).length : Int)
              · go_wp2_with fail
                go_ret
                exact ⟨rfl, HQ1.out.trans HT5.out.q.qb⟩
              go_wp2_with fail
              skip
              have hl1 : Lb.length ≤ 6000 := HM.out.len
              have K6 := tells_any P9 A9 H9 b k9 Lb _ w5 HT5.out.sa HT5.out.oa.usl HM.out.lt (by omega) (HT5.out.q.tab HTb.out)
              have HK7 : Hid (∀ x, Q w5 x → _) := fun x q => tells_any Pa Aa Ha b ka La _ x (HT5.out.sb.next q) (HT5.out.ob.next q).usl HL2.out.lt (by have := HL2.out.len; omega) ((HT5.out.q.trans q).tab HTb.out)
              refine Calls.mono K6 ?_
              rintro e w6 ⟨rfl, q6⟩
              clear K6
              have bx := q6.cell bx
              have HT6 : Hid (Two w1 w6 b P9 A9 H9 k9 Lb Lb _ Pa Aa Ha ka La La _) := HT5.out.next q6
              have K7 := HK7.out _ q6
              clear q6 HT5 HK7
              go_wp2_with fail
              refine Calls.mono K7 ?_
              rintro e w7 ⟨rfl, q7⟩
              clear K7
              have bx := q7.cell bx
              have HT7 : Hid (Two w1 w7 b P9 A9 H9 k9 Lb Lb _ Pa Aa Ha ka La La _) := HT6.out.next q7
              clear q7 HT6
              go_wp2_with fail
              go_roundg (n - (i + 1))
              case measure => go_light; omega
              case rel => go_light; exact ⟨i + 1, Pa, Aa, Ha, ka, La, _, P9, A9, H9, k9, Lb, _, rfl, rfl, rfl, rfl, by go_num, by omega, HT7.out.swap, HL2.out, HM.out.to (by omega)⟩
            have n1 : (kd == 1) = false := by rw [beq_eq_false_iff_ne]; exact k1
            have n2 : (kd == 2) = false := by rw [beq_eq_false_iff_ne]; exact k2
            have n3 : (kd == 3) = false := by rw [beq_eq_false_iff_ne]; exact k3
            have n4 : (kd == 4) = false := by rw [beq_eq_false_iff_ne]; exact k4
            clear k1 k2 k3 k4
            have HT : Hid (Two w1 wo b Pb Ab Hb kb Lb Lb (.slice vb Lb.length cb) Pa Aa Ha ka La La (.slice va La.length ca)) := HTo.out.swap
            have HL1 : Hid (SmL 3000 Lb) := HSb.out
            have HL2 : Hid (SmL 3000 La) := HSa.out
            have HB1 : Hid (stB Pb Ab Hb B ∧ (Value.slice vb Lb.length cb).ownBlock ≠ some B) := HBx.out.2
            clear HTo HSa HSb HBx
            have HT5 := HT
            have HM : Hid (SmL 6000 Lb) := SmL.mono HL1.out (by omega)
            clear HT HUS HSs HU1 e2 e3 e4 e5 e6 e7 e8
            have hl2 : ¬ (3000 : Int) < (La.length : Int) := by have := HL2.out.len; omega
            by_cases h3 : (3000 : Int) < ((Lb).length : Int)
            · go_wp2_with fail
              go_ret
              exact ⟨rfl, HQ1.out.trans HT5.out.q.qb⟩
            go_wp2_with fail
            clear hwo
            have hl1 : Lb.length ≤ 6000 := HM.out.len
            have K6 := tells_any Pb Ab Hb b kb Lb _ wo HT5.out.sa HT5.out.oa.usl HM.out.lt (by omega) (HT5.out.q.tab HTb.out)
            have HK7 : Hid (∀ x, Q wo x → _) := fun x q => tells_any Pa Aa Ha b ka La _ x (HT5.out.sb.next q) (HT5.out.ob.next q).usl HL2.out.lt (by have := HL2.out.len; omega) ((HT5.out.q.trans q).tab HTb.out)
            refine Calls.mono K6 ?_
            rintro e w6 ⟨rfl, q6⟩
            clear K6
            have bx := q6.cell bx
            have HT6 : Hid (Two w1 w6 b Pb Ab Hb kb Lb Lb _ Pa Aa Ha ka La La _) := HT5.out.next q6
            have K7 := HK7.out _ q6
            clear q6 HT5 HK7
            go_wp2_with fail
            refine Calls.mono K7 ?_
            rintro e w7 ⟨rfl, q7⟩
            clear K7
            have bx := q7.cell bx
            have HT7 : Hid (Two w1 w7 b Pb Ab Hb kb Lb Lb _ Pa Aa Ha ka La La _) := HT6.out.next q7
            clear q7 HT6
            go_wp2_with fail
            go_roundg (n - (i + 1))
            case measure => go_light; omega
            case rel => go_light; exact ⟨i + 1, Pa, Aa, Ha, ka, La, _, Pb, Ab, Hb, kb, Lb, _, rfl, rfl, rfl, rfl, by go_num, by omega, HT7.out.swap, HL2.out, HM.out.to (by omega)⟩
          · have hW1 : (wh == 1) = false := by rw [beq_eq_false_iff_ne]; exact hW
            clear hW
            by_cases k1 : kd = 1
            · have n1 : (kd == 1) = true := by rw [k1]; rfl
              clear k1
              have HT : Hid (Two w1 wo b Pa Aa Ha ka La La (.slice va La.length ca) Pb Ab Hb kb Lb Lb (.slice vb Lb.length cb)) := HTo.out
              have HL1 : Hid (SmL 3000 La) := HSa.out
              have HL2 : Hid (SmL 3000 Lb) := HSb.out
              have HB1 : Hid (stB Pa Aa Ha B ∧ (Value.slice va La.length ca).ownBlock ≠ some B) := HBx.out.1
              clear HTo HSa HSb HBx
              have KA := sadds_any Pa Aa Ha b ka La ⟨kd, wh, pw, ph, ad2, cp2, S, x0, y0, x1, y1⟩ wo  HT.out.sa HUS.out HSs.out.lt HSs.out.len (fun g o h e => by subst e; exact stB_low HT.out.ba (usl_lt HU1.out h)) (by have := HL1.out.len; omega)
              simp only [OpD.v] at KA
              go_wp2_with fail
              clear hwo
              refine Calls.mono KA ?_
              rintro e w4 ⟨M, mad, mc, rfl, hu, hml, hmb, hs, f⟩
              clear KA
              have bx := f.cell bx HB1.out.1
              have HT4 : Hid (Two w1 w4 b Pa Aa Ha ka (La ++ M) La (.slice va La.length ca) Pb Ab Hb kb Lb Lb (.slice vb Lb.length cb)) := HT.out.stat hs f
              have HM : Hid (SmL 6000 (La ++ M)) := SmL.mono (HL1.out.app ⟨hml, hmb⟩) (by omega)
              have hll := HL1.out.len
              clear hs f HT HUS HSs HU1 hmb
              have hl2 : ¬ (3000 : Int) < (Lb.length : Int) := by have := HL2.out.len; omega
              by_cases h3 : (3000 : Int) < ((La ++ M).length : Int)
              · go_wp2_with (at_builtin; go_must (refine wpList_addV _ w1 (by rfl) (.tmp 98) (.tmp 99) rfl (.slice va La.length ca) La (by simp [Act.eval, Act.put]) HT4.out.oa mad M.length mc M (by simp [Act.eval, Act.put]) hu rfl (by omega) ?_; intro v' w5 hO hF hB; obtain ⟨v1', c1', rfl⟩ := hO.form; have bx := hF.cell bx HB1.out.2; have HT5 : Hid (Two w1 w5 b Pa Aa Ha ka (La ++ M) (La ++ M) (.slice v1' (La ++ M).length c1') Pb Ab Hb kb Lb Lb (.slice vb Lb.length cb)) := HT4.out.list hO hF hB; clear hO hF hB hu HT4; generalize La ++ M = L9 at *))
                go_ret
                exact ⟨rfl, HQ1.out.trans HT5.out.q.qb⟩
              go_wp2_with (at_builtin; go_must (refine wpList_addV _ w1 (by rfl) (.tmp 98) (.tmp 99) rfl (.slice va La.length ca) La (by simp [Act.eval, Act.put]) HT4.out.oa mad M.length mc M (by simp [Act.eval, Act.put]) hu rfl (by omega) ?_; intro v' w5 hO hF hB; obtain ⟨v1', c1', rfl⟩ := hO.form; have bx := hF.cell bx HB1.out.2; have HT5 : Hid (Two w1 w5 b Pa Aa Ha ka (La ++ M) (La ++ M) (.slice v1' (La ++ M).length c1') Pb Ab Hb kb Lb Lb (.slice vb Lb.length cb)) := HT4.out.list hO hF hB; clear hO hF hB hu HT4; generalize La ++ M = L9 at *))
              skip
              have hl1 : L9.length ≤ 6000 := HM.out.len
              have K6 := tells_any Pa Aa Ha b ka L9 _ w5 HT5.out.sa HT5.out.oa.usl HM.out.lt (by omega) (HT5.out.q.tab HTb.out)
              have HK7 : Hid (∀ x, Q w5 x → _) := fun x q => tells_any Pb Ab Hb b kb Lb _ x (HT5.out.sb.next q) (HT5.out.ob.next q).usl HL2.out.lt (by have := HL2.out.len; omega) ((HT5.out.q.trans q).tab HTb.out)
              refine Calls.mono K6 ?_
              rintro e w6 ⟨rfl, q6⟩
              clear K6
              have bx := q6.cell bx
              have HT6 : Hid (Two w1 w6 b Pa Aa Ha ka L9 L9 _ Pb Ab Hb kb Lb Lb _) := HT5.out.next q6
              have K7 := HK7.out _ q6
              clear q6 HT5 HK7
              go_wp2_with fail
              refine Calls.mono K7 ?_
              rintro e w7 ⟨rfl, q7⟩
              clear K7
              have bx := q7.cell bx
              have HT7 : Hid (Two w1 w7 b Pa Aa Ha ka L9 L9 _ Pb Ab Hb kb Lb Lb _) := HT6.out.next q7
              clear q7 HT6
              go_wp2_with fail
              go_roundg (n - (i + 1))
              case measure => go_light; omega
              case rel => go_light; exact ⟨i + 1, Pa, Aa, Ha, ka, L9, _, Pb, Ab, Hb, kb, Lb, _, rfl, rfl, rfl, rfl, by go_num, by omega, HT7.out, HM.out.to (by omega), HL2.out⟩
            by_cases k2 : kd = 2
            · have n1 : (kd == 1) = false := by rw [beq_eq_false_iff_ne]; omega
              have n2 : (kd == 2) = true := by rw [k2]; rfl
              clear k1 k2
              have HT : Hid (Two w1 wo b Pa Aa Ha ka La La (.slice va La.length ca) Pb Ab Hb kb Lb Lb (.slice vb Lb.length cb)) := HTo.out
              have HL1 : Hid (SmL 3000 La) := HSa.out
              have HL2 : Hid (SmL 3000 Lb) := HSb.out
              have HB1 : Hid (stB Pa Aa Ha B ∧ (Value.slice va La.length ca).ownBlock ≠ some B) := HBx.out.1
              clear HTo HSa HSb HBx
              have KA := smerge_any Pa Aa Ha b ka Pb Ab Hb kb La Lb wo HT.out.sa HT.out.sb HT.out.ab.1.2.1 HT.out.ab.1.2.2 HT.out.ab.2.2.2.1 (by have := HL1.out.len; omega) (by have := HL2.out.len; omega)
              go_wp2_with fail
              clear hwo
              refine Calls.mono KA ?_
              rintro e w4 ⟨rfl, hs, f⟩
              clear KA
              have bx := f.cell bx HB1.out.1
              have HT4 : Hid (Two w1 w4 b Pa Aa Ha ka (La ++ Lb) La (.slice va La.length ca) Pb Ab Hb kb Lb Lb (.slice vb Lb.length cb)) := HT.out.stat hs f
              have HM : Hid (SmL 6000 (La ++ Lb)) := HL1.out.app HL2.out
              have hll := HL1.out.len
              have hll2 := HL2.out.len
              clear hs f HT HUS HSs HU1
              have hl2 : ¬ (3000 : Int) < (Lb.length : Int) := by have := HL2.out.len; omega
              by_cases h3 : (3000 : Int) < ((La ++ Lb).length : Int)
              · go_wp2_with (at_builtin; go_must (refine wpList_addV _ w1 (by rfl) (.tmp 107) (.tmp 108) rfl (.slice va La.length ca) La (by simp [Act.eval, Act.put]) HT4.out.oa vb Lb.length cb Lb (by simp [Act.eval, Act.put]) HT4.out.ob.usl rfl (by omega) ?_; intro v' w5 hO hF hB; obtain ⟨v1', c1', rfl⟩ := hO.form; have bx := hF.cell bx HB1.out.2; have HT5 : Hid (Two w1 w5 b Pa Aa Ha ka (La ++ Lb) (La ++ Lb) (.slice v1' (La ++ Lb).length c1') Pb Ab Hb kb Lb Lb (.slice vb Lb.length cb)) := HT4.out.list hO hF hB; clear hO hF hB HT4; generalize La ++ Lb = L9 at *))
                go_ret
                exact ⟨rfl, HQ1.out.trans HT5.out.q.qb⟩
              go_wp2_with (at_builtin; go_must (refine wpList_addV _ w1 (by rfl) (.tmp 107) (.tmp 108) rfl (.slice va La.length ca) La (by simp [Act.eval, Act.put]) HT4.out.oa vb Lb.length cb Lb (by simp [Act.eval, Act.put]) HT4.out.ob.usl rfl (by omega) ?_; intro v' w5 hO hF hB; obtain ⟨v1', c1', rfl⟩ := hO.form; have bx := hF.cell bx HB1.out.2; have HT5 : Hid (Two w1 w5 b Pa Aa Ha ka (La ++ Lb) (La ++ Lb) (.slice v1' (La ++ Lb).length c1') Pb Ab Hb kb Lb Lb (.slice vb Lb.length cb)) := HT4.out.list hO hF hB; clear hO hF hB HT4; generalize La ++ Lb = L9 at *))
              skip
              have hl1 : L9.length ≤ 6000 := HM.out.len
              have K6 := tells_any Pa Aa Ha b ka L9 _ w5 HT5.out.sa HT5.out.oa.usl HM.out.lt (by omega) (HT5.out.q.tab HTb.out)
              have HK7 : Hid (∀ x, Q w5 x → _) := fun x q => tells_any Pb Ab Hb b kb Lb _ x (HT5.out.sb.next q) (HT5.out.ob.next q).usl HL2.out.lt (by have := HL2.out.len; omega) ((HT5.out.q.trans q).tab HTb.out)
              refine Calls.mono K6 ?_
              rintro e w6 ⟨rfl, q6⟩
              clear K6
              have bx := q6.cell bx
              have HT6 : Hid (Two w1 w6 b Pa Aa Ha ka L9 L9 _ Pb Ab Hb kb Lb Lb _) := HT5.out.next q6
              have K7 := HK7.out _ q6
              clear q6 HT5 HK7
              go_wp2_with fail
              refine Calls.mono K7 ?_
              rintro e w7 ⟨rfl, q7⟩
              clear K7
              have bx := q7.cell bx
              have HT7 : Hid (Two w1 w7 b Pa Aa Ha ka L9 L9 _ Pb Ab Hb kb Lb Lb _) := HT6.out.next q7
              clear q7 HT6
              go_wp2_with fail
              go_roundg (n - (i + 1))
              case measure => go_light; omega
              case rel => go_light; exact ⟨i + 1, Pa, Aa, Ha, ka, L9, _, Pb, Ab, Hb, kb, Lb, _, rfl, rfl, rfl, rfl, by go_num, by omega, HT7.out, HM.out.to (by omega), HL2.out⟩
            by_cases k3 : kd = 3
            · have n1 : (kd == 1) = false := by rw [beq_eq_false_iff_ne]; omega
              have n2 : (kd == 2) = false := by rw [beq_eq_false_iff_ne]; omega
              have n3 : (kd == 3) = true := by rw [k3]; rfl
              clear k1 k2 k3
              have HT : Hid (Two w1 wo b Pa Aa Ha ka La La (.slice va La.length ca) Pb Ab Hb kb Lb Lb (.slice vb Lb.length cb)) := HTo.out
              have HL1 : Hid (SmL 3000 La) := HSa.out
              have HL2 : Hid (SmL 3000 Lb) := HSb.out
              have HB1 : Hid (stB Pa Aa Ha B ∧ (Value.slice va La.length ca).ownBlock ≠ some B) := HBx.out.1
              clear HTo HSa HSb HBx
              have KA := smerge_any Pa Aa Ha b ka Pa Aa Ha ka La La wo HT.out.sa HT.out.sa HT.out.sa.pa HT.out.sa.ph (fun e => HT.out.sa.ah e.symm) (by have := HL1.out.len; omega) (by have := HL1.out.len; omega)
              go_wp2_with fail
              clear hwo
              refine Calls.mono KA ?_
              rintro e w4 ⟨rfl, hs, f⟩
              clear KA
              have bx := f.cell bx HB1.out.1
              have HT4 : Hid (Two w1 w4 b Pa Aa Ha ka (La ++ La) La (.slice va La.length ca) Pb Ab Hb kb Lb Lb (.slice vb Lb.length cb)) := HT.out.stat hs f
              have HM : Hid (SmL 6000 (La ++ La)) := HL1.out.app HL1.out
              have hll := HL1.out.len
              clear hs f HT HUS HSs HU1
              have hl2 : ¬ (3000 : Int) < (Lb.length : Int) := by have := HL2.out.len; omega
              by_cases h3 : (3000 : Int) < ((La ++ La).length : Int)
              · go_wp2_with (at_builtin; first | (refine wpList_copyV _ (by rfl) (.tmp 117) rfl va La.length ca La rfl (by omega) (by simp [Act.eval, Act.put]) HT4.out.oa.usl ?_; intro la lc w45 q45 hu; have bx := q45.cell bx; have HT45 : Hid (Two w1 w45 b Pa Aa Ha ka (La ++ La) La (.slice va La.length ca) Pb Ab Hb kb Lb Lb (.slice vb Lb.length cb)) := HT4.out.next q45; clear q45 HT4) | (refine wpList_addV _ w1 (by rfl) (.tmp 116) (.tmp 118) rfl (.slice va La.length ca) La (by simp [Act.eval, Act.put]) HT45.out.oa la La.length lc La (by simp [Act.eval, Act.put]) hu rfl (by omega) ?_; intro v' w5 hO hF hB; obtain ⟨v1', c1', rfl⟩ := hO.form; have bx := hF.cell bx HB1.out.2; have HT5 : Hid (Two w1 w5 b Pa Aa Ha ka (La ++ La) (La ++ La) (.slice v1' (La ++ La).length c1') Pb Ab Hb kb Lb Lb (.slice vb Lb.length cb)) := HT45.out.list hO hF hB; clear hO hF hB hu HT45; generalize La ++ La = L9 at *))
                go_ret
                exact ⟨rfl, HQ1.out.trans HT5.out.q.qb⟩
              go_wp2_with (at_builtin; first | (refine wpList_copyV _ (by rfl) (.tmp 117) rfl va La.length ca La rfl (by omega) (by simp [Act.eval, Act.put]) HT4.out.oa.usl ?_; intro la lc w45 q45 hu; have bx := q45.cell bx; have HT45 : Hid (Two w1 w45 b Pa Aa Ha ka (La ++ La) La (.slice va La.length ca) Pb Ab Hb kb Lb Lb (.slice vb Lb.length cb)) := HT4.out.next q45; clear q45 HT4) | (refine wpList_addV _ w1 (by rfl) (.tmp 116) (.tmp 118) rfl (.slice va La.length ca) La (by simp [Act.eval, Act.put]) HT45.out.oa la La.length lc La (by simp [Act.eval, Act.put]) hu rfl (by omega) ?_; intro v' w5 hO hF hB; obtain ⟨v1', c1', rfl⟩ := hO.form; have bx := hF.cell bx HB1.out.2; have HT5 : Hid (Two w1 w5 b Pa Aa Ha ka (La ++ La) (La ++ La) (.slice v1' (La ++ La).length c1') Pb Ab Hb kb Lb Lb (.slice vb Lb.length cb)) := HT45.out.list hO hF hB; clear hO hF hB hu HT45; generalize La ++ La = L9 at *))
              skip
              have hl1 : L9.length ≤ 6000 := HM.out.len
              have K6 := tells_any Pa Aa Ha b ka L9 _ w5 HT5.out.sa HT5.out.oa.usl HM.out.lt (by omega) (HT5.out.q.tab HTb.out)
              have HK7 : Hid (∀ x, Q w5 x → _) := fun x q => tells_any Pb Ab Hb b kb Lb _ x (HT5.out.sb.next q) (HT5.out.ob.next q).usl HL2.out.lt (by have := HL2.out.len; omega) ((HT5.out.q.trans q).tab HTb.out)
              refine Calls.mono K6 ?_
              rintro e w6 ⟨rfl, q6⟩
              clear K6
              have bx := q6.cell bx
              have HT6 : Hid (Two w1 w6 b Pa Aa Ha ka L9 L9 _ Pb Ab Hb kb Lb Lb _) := HT5.out.next q6
              have K7 := HK7.out _ q6
              clear q6 HT5 HK7
              go_wp2_with fail
              refine Calls.mono K7 ?_
              rintro e w7 ⟨rfl, q7⟩
              clear K7
              have bx := q7.cell bx
              have HT7 : Hid (Two w1 w7 b Pa Aa Ha ka L9 L9 _ Pb Ab Hb kb Lb Lb _) := HT6.out.next q7
              clear q7 HT6
              go_wp2_with fail
              go_roundg (n - (i + 1))
              case measure => go_light; omega
              case rel => go_light; exact ⟨i + 1, Pa, Aa, Ha, ka, L9, _, Pb, Ab, Hb, kb, Lb, _, rfl, rfl, rfl, rfl, by go_num, by omega, HT7.out, HM.out.to (by omega), HL2.out⟩
            by_cases k4 : kd = 4
            · have n1 : (kd == 1) = false := by rw [beq_eq_false_iff_ne]; omega
              have n2 : (kd == 2) = false := by rw [beq_eq_false_iff_ne]; omega
              have n3 : (kd == 3) = false := by rw [beq_eq_false_iff_ne]; omega
              have n4 : (kd == 4) = true := by rw [k4]; rfl
              clear k1 k2 k3 k4
              have HT : Hid (Two w1 wo b Pa Aa Ha ka La La (.slice va La.length ca) Pb Ab Hb kb Lb Lb (.slice vb Lb.length cb)) := HTo.out
              have HL1 : Hid (SmL 3000 La) := HSa.out
              have HL2 : Hid (SmL 3000 Lb) := HSb.out
              have HB1 : Hid (stB Pa Aa Ha B ∧ (Value.slice va La.length ca).ownBlock ≠ some B) := HBx.out.1
              clear HTo HSa HSb HBx
              have KC := scopy_any Pa Aa Ha b ka La wo HT.out.sa
              have HKA : Hid (∀ x, Q wo x → _) := fun x q => sadds_any Pa Aa Ha b ka La ⟨kd, wh, pw, ph, ad2, cp2, S, x0, y0, x1, y1⟩ x  (HT.out.sa.next q) (HUS.out.next q) HSs.out.lt HSs.out.len (fun g o h e => by subst e; exact stB_low HT.out.ba (usl_lt HU1.out h)) (by have := HL1.out.len; omega)
              simp only [OpD.v] at HKA
              go_wp2_with fail
              clear hwo
              refine Calls.mono KC ?_
              rintro e w4 ⟨P9, A9, H9, k9, rfl, hs, hlo, q4⟩
              clear KC
              have e0 := q4.cell e0
              have e1 := q4.cell e1
              have e2 := q4.cell e2
              have e3 := q4.cell e3
              have e4 := q4.cell e4
              have e5 := q4.cell e5
              have e6 := q4.cell e6
              have e7 := q4.cell e7
              have e8 := q4.cell e8
              have KA := HKA.out _ q4
              have HN4 : Hid (StAt w4 P9 A9 H9 b k9 La ∧ (wo.heap.size ≤ P9 ∧ wo.heap.size ≤ A9 ∧ wo.heap.size ≤ H9) ∧ Q wo w4) := ⟨hs, hlo, q4⟩
              clear hs hlo q4 HKA
              go_wp2_with fail
              refine Calls.mono KA ?_
              rintro e w5 ⟨M, mad, mc, rfl, hu, hml, hmb, hs5, f⟩
              clear KA hu hml hmb hs5
              have bx := f.cell e1 HB1.out.1
              have HT5 : Hid (Two w1 w5 b P9 A9 H9 k9 La La (.slice va La.length ca) Pb Ab Hb kb Lb Lb (.slice vb Lb.length cb)) := HT.out.old HN4.out.2.2 HN4.out.1 HN4.out.2.1 f
              have HM : Hid (SmL 6000 La) := SmL.mono HL1.out (by omega)
              clear f e0 e1 e2 e3 e4 e5 e6 e7 e8 HT HN4 HUS HSs HU1
              have hl2 : ¬ (3000 : Int) < (Lb.length : Int) := by have := HL2.out.len; omega
              by_cases h3 : (3000 : Int) < ((La).length : Int)
              · go_wp2_with fail
                go_ret
                exact ⟨rfl, HQ1.out.trans HT5.out.q.qb⟩
              go_wp2_with fail
              skip
              have hl1 : La.length ≤ 6000 := HM.out.len
              have K6 := tells_any P9 A9 H9 b k9 La _ w5 HT5.out.sa HT5.out.oa.usl HM.out.lt (by omega) (HT5.out.q.tab HTb.out)
              have HK7 : Hid (∀ x, Q w5 x → _) := fun x q => tells_any Pb Ab Hb b kb Lb _ x (HT5.out.sb.next q) (HT5.out.ob.next q).usl HL2.out.lt (by have := HL2.out.len; omega) ((HT5.out.q.trans q).tab HTb.out)
              refine Calls.mono K6 ?_
              rintro e w6 ⟨rfl, q6⟩
              clear K6
              have bx := q6.cell bx
              have HT6 : Hid (Two w1 w6 b P9 A9 H9 k9 La La _ Pb Ab Hb kb Lb Lb _) := HT5.out.next q6
              have K7 := HK7.out _ q6
              clear q6 HT5 HK7
              go_wp2_with fail
              refine Calls.mono K7 ?_
              rintro e w7 ⟨rfl, q7⟩
              clear K7
              have bx := q7.cell bx
              have HT7 : Hid (Two w1 w7 b P9 A9 H9 k9 La La _ Pb Ab Hb kb Lb Lb _) := HT6.out.next q7
              clear q7 HT6
              go_wp2_with fail
              go_roundg (n - (i + 1))
              case measure => go_light; omega
              case rel => go_light; exact ⟨i + 1, P9, A9, H9, k9, La, _, Pb, Ab, Hb, kb, Lb, _, rfl, rfl, rfl, rfl, by go_num, by omega, HT7.out, HM.out.to (by omega), HL2.out⟩
            have n1 : (kd == 1) = false := by rw [beq_eq_false_iff_ne]; exact k1
            have n2 : (kd == 2) = false := by rw [beq_eq_false_iff_ne]; exact k2
            have n3 : (kd == 3) = false := by rw [beq_eq_false_iff_ne]; exact k3
            have n4 : (kd == 4) = false := by rw [beq_eq_false_iff_ne]; exact k4
            clear k1 k2 k3 k4
            have HT : Hid (Two w1 wo b Pa Aa Ha ka La La (.slice va La.length ca) Pb Ab Hb kb Lb Lb (.slice vb Lb.length cb)) := HTo.out
            have HL1 : Hid (SmL 3000 La) := HSa.out
            have HL2 : Hid (SmL 3000 Lb) := HSb.out
            have HB1 : Hid (stB Pa Aa Ha B ∧ (Value.slice va La.length ca).ownBlock ≠ some B) := HBx.out.1
            clear HTo HSa HSb HBx
            have HT5 := HT
            have HM : Hid (SmL 6000 La) := SmL.mono HL1.out (by omega)
            clear HT HUS HSs HU1 e2 e3 e4 e5 e6 e7 e8
            have hl2 : ¬ (3000 : Int) < (Lb.length : Int) := by have := HL2.out.len; omega
            by_cases h3 : (3000 : Int) < ((La).length : Int)
            · go_wp2_with fail
              go_ret
              exact ⟨rfl, HQ1.out.trans HT5.out.q.qb⟩
            go_wp2_with fail
            clear hwo
            have hl1 : La.length ≤ 6000 := HM.out.len
            have K6 := tells_any Pa Aa Ha b ka La _ wo HT5.out.sa HT5.out.oa.usl HM.out.lt (by omega) (HT5.out.q.tab HTb.out)
            have HK7 : Hid (∀ x, Q wo x → _) := fun x q => tells_any Pb Ab Hb b kb Lb _ x (HT5.out.sb.next q) (HT5.out.ob.next q).usl HL2.out.lt (by have := HL2.out.len; omega) ((HT5.out.q.trans q).tab HTb.out)
            refine Calls.mono K6 ?_
            rintro e w6 ⟨rfl, q6⟩
            clear K6
            have bx := q6.cell bx
            have HT6 : Hid (Two w1 w6 b Pa Aa Ha ka La La _ Pb Ab Hb kb Lb Lb _) := HT5.out.next q6
            have K7 := HK7.out _ q6
            clear q6 HT5 HK7
            go_wp2_with fail
            refine Calls.mono K7 ?_
            rintro e w7 ⟨rfl, q7⟩
            clear K7
            have bx := q7.cell bx
            have HT7 : Hid (Two w1 w7 b Pa Aa Ha ka La La _ Pb Ab Hb kb Lb Lb _) := HT6.out.next q7
            clear q7 HT6
            go_wp2_with fail
            go_roundg (n - (i + 1))
            case measure => go_light; omega
            case rel => go_light; exact ⟨i + 1, Pa, Aa, Ha, ka, La, _, Pb, Ab, Hb, kb, Lb, _, rfl, rfl, rfl, rfl, by go_num, by omega, HT7.out, HM.out.to (by omega), HL2.out⟩
        · obtain rfl : n = i := by omega
          have hge : ¬ (n : Int) < (n : Int) := by omega
          obtain ⟨b', hb', h1', h2', hne⟩ := bits_next HB.out.1 HB.out.2
          have hbb : (b : Int) ≤ 12 := by have := HB.out.2; omega
          go_wp2_with fail
          rw [hb'.out]
          refine Calls.mono (snew_good b' h1' h2' _) ?_
          rintro e w8 ⟨P', A', H', k', rfl, l1, l2, l3, hs, q8⟩
          have HT8 : Hid (Two w1 w8 b Pa Aa Ha ka La La (.slice va La.length ca) Pb Ab Hb kb Lb Lb (.slice vb Lb.length cb)) := HTw.out.next q8
          have HS8 : Hid (StAt w8 P' A' H' b' k' []) := hs
          clear l1 l2 l3 hs q8 HTw
          go_wp2_with fail
          refine Calls.mono (smerge_bad Pa Aa Ha b ka P' A' H' b' k' La [] w8 HT8.out.sa HS8.out hne) ?_
          rintro e w9 ⟨rfl, q9⟩
          have HT9 : Hid (Two w1 w9 b Pa Aa Ha ka La La (.slice va La.length ca) Pb Ab Hb kb Lb Lb (.slice vb Lb.length cb)) := HT8.out.next q9
          clear q9 HT8 HS8
          go_wp2_with fail
          refine Calls.mono (tells_any Pa Aa Ha b ka La _ w9 HT9.out.sa HT9.out.oa.usl HSa.out.lt (by have := HSa.out.len; omega) (HT9.out.q.tab HTb.out)) ?_
          rintro e w10 ⟨rfl, q10⟩
          have HQA : Hid (Qb W0 w10) := HQ1.out.trans (HT9.out.q.trans q10).qb
          clear q10 HT9
          go_wp2_with fail
          go_ret
          exact ⟨by first | rfl | simp, HQA.out⟩
end Go.Proofs.YtieojgblamkgoaaGreatDoor
