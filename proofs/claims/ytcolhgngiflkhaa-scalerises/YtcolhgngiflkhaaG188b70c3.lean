/- The statement ScaleExtremes: its walk. -/
import Derived.Test.YtcolhgngiflkhaaG0cd87887
import Derived.Test.YtcolhgngiflkhaaG3dae3bac
import Derived.Test.YtcolhgngiflkhaaG313422f9
namespace Go.Proofs.Ytcolhgngiflkhaa
open Go.RowKit
set_option linter.unusedVariables false
set_option linter.unusedSimpArgs false

theorem plnE_full {pw ph : Int} {n : Nat} {kind W H : Int} (hE : plnE pw ph n kind W H = 0) : ∃ pa pb WW HH : Nat, pw = (pa : Int) ∧ ph = (pb : Int) ∧ Size pa pb ∧ n = pa * pb ∧ W = (WW : Int) ∧ H = (HH : Int) ∧ Size WW HH ∧ tapE kind pa WW 0 = 0 ∧ tapE kind pb HH 0 = 0 := by
  obtain ⟨hs, t1, t2⟩ := plnE_ok hE
  have hc : chk pw ph n = 0 := by
    unfold plnE at hE
    split at hE
    · assumption
    · rename_i h; exact absurd hE h
  obtain ⟨a, b, rfl, rfl, h1, h2⟩ := chk_zero hc
  obtain ⟨c, d, rfl, rfl, h3⟩ := hs.nat
  exact ⟨a, b, c, d, rfl, rfl, h1, h2, rfl, rfl, h3, t1, t2⟩
theorem over_lt (X : Nat) : overW X < 4294967296 := by
  unfold overW
  split
  · decide
  · exact toldD_lt _
theorem whl_lt (kind : Int) (pa pb W H : Nat) (S : List Nat) (X Y : Nat) : whlV kind pa pb W H S X Y < 4294967296 := over_lt _
/-- A plane in a box. -/
structure Pbx (W0 x : World) (B : Nat) (pw ph : Int) (sv : Value) : Prop where
  c0 : x.cell? ⟨B, 0, none⟩ = some (.int .i64 pw)
  c1 : x.cell? ⟨B, 1, none⟩ = some (.int .i64 ph)
  c2 : x.cell? ⟨B, 2, none⟩ = some sv
  q : Q W0 x
theorem Pbx.next {W0 x y : World} {B : Nat} {pw ph : Int} {sv : Value} (h : Pbx W0 x B pw ph sv) (q : Q x y) : Pbx W0 y B pw ph sv := ⟨q.cell h.c0, q.cell h.c1, q.cell h.c2, h.q.trans q⟩
theorem Bk2.next {W0 x y : World} {B g W H m : Nat} {F : Nat → Nat} (h : Bk2 W0 x B g W H m F) (q : Q x y) : Bk2 W0 y B g W H m F := ⟨q.cell h.o0, q.cell h.o1, q.cell h.o2, h.row.next q, h.q.trans q⟩
/-- The least and the greatest by now. -/
structure LoHi (S : List Nat) (i : Nat) (lo hi : Int) : Prop where
  fin : ∀ j, j < i → rung32 (S.getD j 0) < 2139095040
  le : ∀ j, j < i → lo ≤ srung32 (S.getD j 0) ∧ srung32 (S.getD j 0) ≤ hi
  at_ : 0 < i → ∃ a b, lo = srung32 (S.getD a 0) ∧ hi = srung32 (S.getD b 0) ∧ a < i ∧ b < i
  bd : -1099511627776 ≤ lo ∧ lo ≤ 1099511627776 ∧ -1099511627776 ≤ hi ∧ hi ≤ 1099511627776
  z : i = 0 → lo = 1099511627776 ∧ hi = -1099511627776
theorem LoHi.step {S : List Nat} {i : Nat} {lo hi : Int} (h : LoHi S i lo hi) (hf : rung32 (S.getD i 0) < 2139095040) : LoHi S (i + 1) (min lo (srung32 (S.getD i 0))) (max hi (srung32 (S.getD i 0))) := by
  have b := fin_srung hf
  refine ⟨fun j hj => ?_, fun j hj => ?_, fun _ => ?_, ?_, fun e => by omega⟩
  · by_cases e : j = i
    · subst e; exact hf
    · exact h.fin j (by omega)
  · by_cases e : j = i
    · subst e; omega
    · have := h.le j (by omega); omega
  · rcases Nat.eq_zero_or_pos i with e | e
    · have := h.z e
      exact ⟨i, i, by omega, by omega, by omega, by omega⟩
    · obtain ⟨a, b, h1, h2, h3, h4⟩ := h.at_ e
      refine ⟨if lo ≤ srung32 (S.getD i 0) then a else i, if srung32 (S.getD i 0) ≤ hi then b else i, ?_, ?_, ?_, ?_⟩
      · split <;> omega
      · split <;> omega
      · split <;> omega
      · split <;> omega
  · have := h.bd; omega
structure Ex1 (W0 x : World) (B Bq g pa pb W H m : Nat) (sv : Value) (F : Nat → Nat) (S : List Nat) (i : Nat) (lo hi : Int) : Prop where
  p : Pbx W0 x B (pa : Int) (pb : Int) sv
  k : Bk2 W0 x Bq g W H m F
  l : LoHi S i lo hi
set_option maxHeartbeats 8000000 in
set_option maxRecDepth 100000 in
theorem sext_walk (W0 : World) (pw ph kind W H : Int) (sv : Value) (S : List Nat) (us : USl W0 sv S) (ml : S.length ≤ 9223372036854775807) (hb : ∀ i, S.getD i 0 < 4294967296) :
    Calls Try.prog 3 #[.agg #[.int .i64 pw, .int .i64 ph, sv], .int .i64 kind, .int .i64 W, .int .i64 H] W0 fun e w' => e = .returned (.bool true) ∧ Q W0 w' := by
  obtain ⟨ad, c, rfl⟩ := us.form
  obtain ⟨n, hn⟩ : ∃ n, S.length = n := ⟨_, rfl⟩
  have HU : Hid (USl W0 (.slice ad n c) S) := by rw [hn] at us; exact us
  have HN : Hid (S.length = n) := hn
  have HB : Hid (∀ i, S.getD i 0 < 4294967296) := hb
  rw [hn] at ml ⊢
  clear us hn hb
  obtain ⟨w1, hw1⟩ : ∃ w1, W0.alloc (.cells #[.int .i64 pw, .int .i64 ph, .slice ad n c] 24) = w1 := ⟨_, rfl⟩
  have HP1 : Hid (Pbx W0 w1 W0.heap.size pw ph (.slice ad n c)) := by
    show Pbx _ _ _ _ _ _
    rw [← hw1]
    exact ⟨by simp [go_sem], by simp [go_sem], by simp [go_sem], (Q.refl W0).cells _ _⟩
  have C0 := known10_any w1
  have CS : Hid (∀ w : World, Calls Try.prog 7 #[.agg #[.int .i64 pw, .int .i64 ph, .slice ad n c], .int .i64 W, .int .i64 H] w fun e w' => e = .returned (.bool (smlP pw ph n W H)) ∧ Q w w') := fun w => smallp_any pw ph ad n c W H w
  have HC : Hid (smlP pw ph n W H = true → (n : Int) ≤ 3000) := fun h => by unfold smlP at h; exact (of_decide_eq_true h).1.1
  generalize smlP pw ph n W H = B at CS HC
  have HPN : Hid (∀ w : World, ¬ plnE pw ph n kind W H = 0 → Calls Try.prog 8 #[.agg #[.int .i64 pw, .int .i64 ph, .slice ad n c], .int .i64 kind, .int .i64 W, .int .i64 H] w fun e w' => e = .returned (.tuple #[.agg #[.int .i64 0, .int .i64 0, .slice none 0 0], .int .i64 (plnE pw ph n kind W H)]) ∧ Q w w') := fun w hE => plane_bad pw ph ad n c kind W H ml hE w
  go_enter Try.func3, Try.ntmps3
  go_wp2_with fail
  refine C0.mono ?_
  rintro e w2 ⟨rfl, q2⟩
  have HP2 : Hid (Pbx W0 w2 W0.heap.size pw ph (.slice ad n c)) := HP1.out.next q2
  clear C0 q2 hw1 HP1
  have k0 := HP2.out.c0
  have k1 := HP2.out.c1
  have k2 := HP2.out.c2
  go_wp2_with fail
  refine (CS.out w2).mono ?_
  rintro e w3 ⟨rfl, q3⟩
  have HP3 : Hid (Pbx W0 w3 W0.heap.size pw ph (.slice ad n c)) := HP2.out.next q3
  clear CS q3 HP2 k0 k1 k2
  cases B
  · go_wp2_with fail
    go_ret
    exact ⟨rfl, HP3.out.q⟩
  have hn3 := HC.out rfl
  have k0 := HP3.out.c0
  have k1 := HP3.out.c1
  have k2 := HP3.out.c2
  by_cases hE : plnE pw ph n kind W H = 0
  rotate_left
  · have CP := HPN.out w3 hE
    generalize plnE pw ph n kind W H = E at *
    have hE0 : (E != 0) = true := by simpa using hE
    clear hE HPN
    go_wp2_with fail
    refine CP.mono ?_
    rintro e w5 ⟨rfl, q5⟩
    have HQ5 : Hid (Q W0 w5) := HP3.out.q.trans q5
    clear q5 CP k0 k1 k2
    go_wp2_with fail
    go_ret
    first
      | exact ⟨rfl, HQ5.out.cells _ _⟩
      | exact ⟨rfl, (((HQ5.out.cells _ _).set HQ5.out.1.size _).set HQ5.out.1.size _).set HQ5.out.1.size _⟩
  obtain ⟨pa, pb, pW, pH, rfl, rfl, hsz, hnn, rfl, rfl, hWH, hT1, hT2⟩ := plnE_full hE
  obtain ⟨g, o, d, hs, hle, hI⟩ := HU.out.some (by rw [HN.out, hnn]; exact hsz.pos)
  rw [HN.out] at hs
  injection hs with e1 e2 e3
  subst e1 e3
  have CP := plane_good kind pa pb pW pH _ S w3 (HU.out.next HP3.out.q) (by rw [HN.out, hnn]) HB.out (by rw [HN.out]; exact hE) hsz hWH
  have HT : Hid (n = pa * pb ∧ (∀ X, X < pW → tapE kind pa pW X = 0) ∧ (∀ Y, Y < pH → tapE kind pb pH Y = 0) ∧ 0 < pW) := ⟨hnn, fun X hX => tapE_at hT1 (by omega), fun Y hY => tapE_at hT2 (by omega), hWH.a1⟩
  have HI : Hid (∀ i, i < n → ∀ x : World, Q W0 x → x.cell? ⟨g, o + i, none⟩ = some (.int .u32 ((S.getD i 0 : Nat) : Int))) := fun i hi x q => q.cell (hI i (by rw [HN.out]; exact hi))
  have hm2 : pW * pH ≤ 65536 := hWH.ab
  obtain ⟨m, hm⟩ : ∃ m, pW * pH = m := ⟨_, rfl⟩
  have HM : Hid (pW * pH = m) := hm
  obtain ⟨F, hF⟩ : ∃ F, (fun i => whlV kind pa pb pW pH S (i % pW) (i / pW)) = F := ⟨_, rfl⟩
  have HF : Hid (∀ i, F i = whlV kind pa pb pW pH S (i % pW) (i / pW)) := fun i => by rw [← hF]
  rw [hF, hm] at CP
  rw [hm] at hm2
  have hn1 : 1 ≤ n := by rw [hnn]; exact hsz.pos
  have hbW := hWH.a2
  have hbH := hWH.b2
  have hba := hsz.a2
  have hbb := hsz.b2
  clear hF hWH hT1 hT2 hE hsz hnn HPN HC e2 hI hle hm
  go_wp2_with fail
  refine CP.mono ?_
  rintro e w5 ⟨gq, rfl, hu, hl, q5⟩
  have HW : Hid (URow w5 gq (tabN m F) ∧ Pbx W0 w5 W0.heap.size (pa : Int) (pb : Int) (.slice (some ⟨g, o, none⟩) n c)) := ⟨hu, HP3.out.next q5⟩
  clear CP hu hl q5 k0 k1 k2 HP3
  go_wp2_with fail
  go_loopg [11, 12, 13] n (fun k s11 s12 s13 wr => ∃ (i : Nat) (lo hi : Int), s11 = .int .i64 lo ∧ s12 = .int .i64 hi ∧ s13 = .int .i64 (i : Int) ∧ i + k = n ∧ Hid (Ex1 W0 wr W0.heap.size w5.heap.size gq pa pb pW pH m (.slice (some ⟨g, o, none⟩) n c) F S i lo hi))
  case atStart =>
    refine ⟨0, 1099511627776, -1099511627776, rfl, rfl, rfl, by omega, ?_⟩
    show Ex1 _ _ _ _ _ _ _ _ _ _ _ _ _ _ _ _
    refine ⟨HW.out.2.next ((Q.refl w5).cells _ _), ⟨?_, ?_, ?_, HW.out.1.next ((Q.refl w5).cells _ _), HW.out.2.q.cells _ _⟩, ⟨fun j hj => by omega, fun j hj => by omega, fun h => by omega, by decide, fun _ => ⟨rfl, rfl⟩⟩⟩
    · simp [go_sem]
    · simp [go_sem]
    · simp [go_sem]
  case round =>
    obtain ⟨i, lo, hi, rfl, rfl, rfl, hi', HX⟩ := hrel
    have c2 := HX.out.p.c2
    by_cases hlt : i < n
    · have hlt' : (i : Int) < (n : Int) := by omega
      have ci := HI.out i hlt wr HX.out.p.q
      obtain ⟨x, hx⟩ : ∃ x, S.getD i 0 = x := ⟨_, rfl⟩
      have hx4 : x < 4294967296 := by rw [← hx]; exact HB.out i
      have HXx : Hid (S.getD i 0 = x) := hx
      rw [hx] at ci
      clear hx
      have CF := finite_any x hx4 wr
      rcases Nat.lt_or_ge (rung32 x) 2139095040 with hf | hf
      · rw [decide_eq_true hf] at CF
        have HL : Hid (LoHi S (i + 1) (min lo (srung32 x)) (max hi (srung32 x))) := by
          have := HX.out.l.step (by rw [HXx.out]; exact hf)
          rw [HXx.out] at this
          exact this
        have CK : Hid (∀ w : World, Calls Try.prog 10 #[.int .u32 (x : Int)] w fun e w' => e = .returned (.int .i64 (srung32 x)) ∧ w' = w) := fun w => key10_any x hx4 w
        generalize srung32 x = y at CK HL
        have hmn : ∀ (ts : Array TypeId) (t : TypeId) (w : World), (Builtin.min_ ts t #[.int .i64 lo, .int .i64 y]).run Try.prog w = .ok (.int .i64 (min lo y)) w := fun ts t w => run_mn2 ts t _ _ w
        have hmx : ∀ (ts : Array TypeId) (t : TypeId) (w : World), (Builtin.max_ ts t #[.int .i64 hi, .int .i64 y]).run Try.prog w = .ok (.int .i64 (max hi y)) w := fun ts t w => run_mx2 ts t _ _ w
        generalize min lo y = lo2 at hmn HL
        generalize max hi y = hi2 at hmx HL
        clear hf
        go_wp2_with fail
        refine CF.mono ?_
        rintro e w6 ⟨rfl, hw6⟩
        obtain rfl := hw6.symm
        clear hw6 CF
        have n0 := qw_some wr
        have d2 := qw_cell c2
        have di := qw_cell ci
        go_wp2_with fail
        refine wp_region_quiet_Q (by kernel_rfl) (by kernel_rfl) ?_
        repeat (first | go_big_quiet_step (first | (go_at_call 10; exact calls_qs (CK.out _))) | quiet_step (first | (go_at_call 10; exact calls_qs (CK.out _))))
        refine wpQuiet_nil ?_
        intro w7 hw'
        have hq7 := qw_out hw'
        have HX7 : Hid (Ex1 W0 w7 W0.heap.size w5.heap.size gq pa pb pW pH m (.slice (some ⟨g, o, none⟩) n c) F S (i + 1) lo2 hi2) := ⟨HX.out.p.next hq7, HX.out.k.next hq7, HL.out⟩
        clear hw' n0 d2 di hmn hmx hq7 HX c2 ci
        go_wp2_with fail
        go_roundg (n - (i + 1))
        case measure => go_light; omega
        case rel => go_light; exact ⟨i + 1, lo2, hi2, rfl, rfl, by go_num, by omega, HX7⟩
      · rw [decide_eq_false (by omega)] at CF
        clear hf
        go_wp2_with fail
        refine CF.mono ?_
        rintro e w6 ⟨rfl, hw6⟩
        obtain rfl := hw6.symm
        clear hw6 CF
        go_wp2_with fail
        go_ret
        exact ⟨rfl, HX.out.p.q⟩
    · obtain rfl : i = n := by omega
      have hge : ¬ (i : Int) < (i : Int) := by omega
      have hbd := HX.out.l.bd
      have HV : Hid (∀ j, j < m → (F j < 4294967296 ∧ (kind ≠ 3 → rung32 (F j) < 2139095040 ∧ lo ≤ srung32 (F j) ∧ srung32 (F j) ≤ hi) ∧ (kind = 3 → max hi (-lo) ≤ 2071986176 → rung32 (F j) < 2139095040))) := fun j hj => by
        have hj1 : j % pW < pW := Nat.mod_lt j HT.out.2.2.2
        have hj2 : j / pW < pH := Nat.div_lt_of_lt_mul (by rw [HM.out]; exact hj)
        have hX := HT.out.2.1 _ hj1
        have hY := HT.out.2.2.1 _ hj2
        obtain ⟨a, b, e1, e2, e3, e4⟩ := HX.out.l.at_ hn1
        rw [HF.out]
        refine ⟨whl_lt _ _ _ _ _ _ _ _, fun hk => ?_, fun hk hc => ?_⟩
        · have := whl_between (S := S) (lo := S.getD a 0) (hi := S.getD b 0) hk hX hY ⟨HX.out.l.fin a e3, HB.out a⟩ ⟨HX.out.l.fin b e4, HB.out b⟩ (fun k hk => by
            rw [← HT.out.1] at hk
            have := HX.out.l.le k hk
            rw [← e1, ← e2]
            exact ⟨HX.out.l.fin k hk, this⟩)
          rw [← e1, ← e2] at this
          exact ⟨this.2.2, this.1, this.2.1⟩
        · subst hk
          refine cub_fin hX hY (fun k hk => ?_)
          rw [← HT.out.1] at hk
          have := HX.out.l.le k hk
          unfold srung32 at this
          split at this <;> omega
      clear hi'
      go_wp2_with fail
      go_loopg [14] m (fun k s14 wx => ∃ j : Nat, s14 = .int .i64 (j : Int) ∧ j + k = m ∧ Hid (Bk2 W0 wx w5.heap.size gq pW pH m F))
      case atStart => exact ⟨0, rfl, by omega, HX.out.k⟩
      case round =>
        obtain ⟨j, rfl, hj, HY⟩ := hrel
        have o2 := HY.out.o2
        by_cases hlt : j < m
        · have hlt' : (j : Int) < (m : Int) := by omega
          have ck := HY.out.row.cell j _ (tabN_at hlt)
          obtain ⟨v1, v2, v3⟩ := HV.out j hlt
          obtain ⟨x, hx⟩ : ∃ x, F j = x := ⟨_, rfl⟩
          rw [hx] at ck v1 v2 v3
          clear hx
          have CF : Hid (∀ w : World, Calls Try.prog 9 #[.int .u32 (x : Int)] w fun e w' => e = .returned (.bool (decide (rung32 x < 2139095040))) ∧ w' = w) := fun w => finite_any x v1 w
          have CK : Hid (∀ w : World, Calls Try.prog 10 #[.int .u32 (x : Int)] w fun e w' => e = .returned (.int .i64 (srung32 x)) ∧ w' = w) := fun w => key10_any x v1 w
          by_cases hk : kind = 3
          · subst hk
            have h33 : ((3 : Int) != 3) = false := by decide
            have h34 : ((3 : Int) == 3) = true := by decide
            have hmx : ∀ (ts : Array TypeId) (t : TypeId) (w : World), (Builtin.max_ ts t #[.int .i64 hi, .int .i64 (-lo)]).run Try.prog w = .ok (.int .i64 (max hi (-lo))) w := fun ts t w => run_mx2 ts t _ _ w
            have v4 := v3 rfl
            generalize max hi (-lo) = mh at hmx v4
            clear v2 v3
            rcases Int.lt_or_le 2071986176 mh with hc | hc
            · have hc2 : ¬ mh ≤ 2071986176 := by omega
              clear v4
              go_wp2_with fail
              go_roundg (m - (j + 1))
              case measure => go_light; omega
              case rel => go_light; exact ⟨j + 1, by go_num, by omega, HY⟩
            · have hf := v4 hc
              rw [decide_eq_true hf] at CF
              clear v4 hf
              go_wp2_with fail
              refine (CF.out _).mono ?_
              rintro e w6 ⟨rfl, hw6⟩
              obtain rfl := hw6.symm
              clear hw6
              go_wp2_with fail
              go_roundg (m - (j + 1))
              case measure => go_light; omega
              case rel => go_light; exact ⟨j + 1, by go_num, by omega, HY⟩
          · have h33 : (kind != 3) = true := by simpa using hk
            have h34 : (kind == 3) = false := by simpa using hk
            obtain ⟨u1, u2, u3⟩ := v2 hk
            rw [decide_eq_true u1] at CF
            generalize srung32 x = y at CK u2 u3
            have u4 : ¬ y < lo := by omega
            have u5 : ¬ hi < y := by omega
            clear v2 v3 u1
            go_wp2_with fail
            refine (CF.out _).mono ?_
            rintro e w6 ⟨rfl, hw6⟩
            obtain rfl := hw6.symm
            clear hw6
            go_wp2_with fail
            refine (CK.out _).mono ?_
            rintro e w6 ⟨rfl, hw6⟩
            obtain rfl := hw6.symm
            clear hw6
            go_wp2_with fail
            refine (CK.out _).mono ?_
            rintro e w6 ⟨rfl, hw6⟩
            obtain rfl := hw6.symm
            clear hw6
            go_wp2_with fail
            go_roundg (m - (j + 1))
            case measure => go_light; omega
            case rel => go_light; exact ⟨j + 1, by go_num, by omega, HY⟩
        · obtain rfl : j = m := by omega
          have hge2 : ¬ (j : Int) < (j : Int) := by omega
          go_wp2_with fail
          go_ret
          exact ⟨rfl, HY.out.q⟩
end Go.Proofs.Ytcolhgngiflkhaa
