/- The statement ScaleExtremes: its walk. -/
import Derived.Test.YtcolhgngiflkhaaG3e6525f2
import Derived.Test.YtcolhgngiflkhaaG31c01a9c
import Derived.Test.YtcolhgngiflkhaaG245e28f0
namespace Go.Proofs.Ytcolhgngiflkhaa
open Go.RowKit
set_option linter.unusedVariables false
set_option linter.unusedSimpArgs false

theorem plnE_full {pw ph : Int} {n : Nat} {kind W H : Int} (hE : plnE pw ph n kind W H = 0) : ∃ pa pb WW HH : Nat, pw = (pa : Int) ∧ ph = (pb : Int) ∧ Size pa pb ∧ n = pa * pb ∧ W = (WW : Int) ∧ H = (HH : Int) ∧ Size WW HH ∧ tapE kind pa WW 0 = 0 ∧ tapE kind pb HH 0 = 0 := by
  obtain ⟨hs, t1, t2⟩ := plnE_ok hE
  have hc : chk pw ph n = 0 := by
    unfold plnE at hE
    split at hE
    · assumption
    · rename_i h; exact absurd hE h
  obtain ⟨a, b, rfl, rfl, h1, h2⟩ := chk_zero hc
  obtain ⟨c, d, rfl, rfl, h3⟩ := hs.nat
  exact ⟨a, b, c, d, rfl, rfl, h1, h2, rfl, rfl, h3, t1, t2⟩
theorem over_lt (X : Nat) : overW X < 4294967296 := by
  unfold overW
  split
  · decide
  · exact toldD_lt _
theorem whl_lt (kind : Int) (pa pb W H : Nat) (S : List Nat) (X Y : Nat) : whlV kind pa pb W H S X Y < 4294967296 := over_lt _
/-- A plane in a box. -/
structure Pbx (W0 x : World) (B : Nat) (pw ph : Int) (sv : Value) : Prop where
  c0 : x.cell? ⟨B, 0, none⟩ = some (.int .i64 pw)
  c1 : x.cell? ⟨B, 1, none⟩ = some (.int .i64 ph)
  c2 : x.cell? ⟨B, 2, none⟩ = some sv
  q : Q W0 x
theorem Pbx.next {W0 x y : World} {B : Nat} {pw ph : Int} {sv : Value} (h : Pbx W0 x B pw ph sv) (q : Q x y) : Pbx W0 y B pw ph sv := ⟨q.cell h.c0, q.cell h.c1, q.cell h.c2, h.q.trans q⟩
theorem Bk2.next {W0 x y : World} {B g W H m : Nat} {F : Nat → Nat} (h : Bk2 W0 x B g W H m F) (q : Q x y) : Bk2 W0 y B g W H m F := ⟨q.cell h.o0, q.cell h.o1, q.cell h.o2, h.row.next q, h.q.trans q⟩
/-- The least and the greatest by now. -/
structure LoHi (S : List Nat) (i : Nat) (lo hi : Int) : Prop where
  fin : ∀ j, j < i → rung32 (S.getD j 0) < 2139095040
  le : ∀ j, j < i → lo ≤ srung32 (S.getD j 0) ∧ srung32 (S.getD j 0) ≤ hi
  at_ : 0 < i → ∃ a b, lo = srung32 (S.getD a 0) ∧ hi = srung32 (S.getD b 0) ∧ a < i ∧ b < i
  bd : -1099511627776 ≤ lo ∧ lo ≤ 1099511627776 ∧ -1099511627776 ≤ hi ∧ hi ≤ 1099511627776
  z : i = 0 → lo = 1099511627776 ∧ hi = -1099511627776
theorem LoHi.step {S : List Nat} {i : Nat} {lo hi : Int} (h : LoHi S i lo hi) (hf : rung32 (S.getD i 0) < 2139095040) : LoHi S (i + 1) (min lo (srung32 (S.getD i 0))) (max hi (srung32 (S.getD i 0))) := by
  have b := fin_srung hf
  refine ⟨fun j hj => ?_, fun j hj => ?_, fun _ => ?_, ?_, fun e => by omega⟩
  · by_cases e : j = i
    · subst e; exact hf
    · exact h.fin j (by omega)
  · by_cases e : j = i
    · subst e; omega
    · have := h.le j (by omega); omega
  · rcases Nat.eq_zero_or_pos i with e | e
    · have := h.z e
      exact ⟨i, i, by omega, by omega, by omega, by omega⟩
    · obtain ⟨a, b, h1, h2, h3, h4⟩ := h.at_ e
      refine ⟨if lo ≤ srung32 (S.getD i 0) then a else i, if srung32 (S.getD i 0) ≤ hi then b else i, ?_, ?_, ?_, ?_⟩
      · split <;> omega
      · split <;> omega
      · split <;> omega
      · split <;> omega
  · have := h.bd; omega
structure Ex1 (W0 x : World) (B Bq g pa pb W H m : Nat) (sv : Value) (F : Nat → Nat) (S : List Nat) (i : Nat) (lo hi : Int) : Prop where
  p : Pbx W0 x B (pa : Int) (pb : Int) sv
  k : Bk2 W0 x Bq g W H m F
  l : LoHi S i lo hi
set_option maxHeartbeats 8000000 in
set_option maxRecDepth 100000 in
theorem sext_walk (W0 : World) (pw ph kind W H : Int) (sv : Value) (S : List Nat) (us : USl W0 sv S) (ml : S.length ≤ 9223372036854775807) (hb : ∀ i, S.getD i 0 < 4294967296) :
    Calls Try.prog 3 #[.agg #[.int .i64 pw, .int .i64 ph, sv], .int .i64 kind, .int .i64 W, .int .i64 H] W0 fun e w' => e = .returned (.bool true) ∧ Q W0 w' := by
  obtain ⟨ad, c, rfl⟩ := us.form
  obtain ⟨n, hn⟩ : ∃ n, S.length = n := ⟨_, rfl⟩
  have HU : Hid (USl W0 (.slice ad n c) S) := by rw [hn] at us; exact us
  have HN : Hid (S.length = n) := hn
  have HB : Hid (∀ i, S.getD i 0 < 4294967296) := hb
  rw [hn] at ml ⊢
  clear us hn hb
  obtain ⟨w1, hw1⟩ : ∃ w1, W0.alloc (.cells #[.int .i64 pw, .int .i64 ph, .slice ad n c] 24) = w1 := ⟨_, rfl⟩
  have HP1 : Hid (Pbx W0 w1 W0.heap.size pw ph (.slice ad n c)) := by
    show Pbx _ _ _ _ _ _
    rw [← hw1]
    exact ⟨by simp [go_sem], by simp [go_sem], by simp [go_sem], (Q.refl W0).cells _ _⟩
  have C0 := known10_any w1
  have CS : Hid (∀ w : World, Calls Try.prog 7 #[.agg #[.int .i64 pw, .int .i64 ph, .slice ad n c], .int .i64 W, .int .i64 H] w fun e w' => e = .returned (.bool (smlP pw ph n W H)) ∧ Q w w') := fun w => smallp_any pw ph ad n c W H w
  have HC : Hid (smlP pw ph n W H = true → (n : Int) ≤ 3000) := fun h => by unfold smlP at h; exact (of_decide_eq_true h).1.1
  generalize smlP pw ph n W H = B at CS HC
  have HPN : Hid (∀ w : World, ¬ plnE pw ph n kind W H = 0 → Calls Try.prog 8 #[.agg #[.int .i64 pw, .int .i64 ph, .slice ad n c], .int .i64 kind, .int .i64 W, .int .i64 H] w fun e w' => e = .returned (.tuple #[.agg #[.int .i64 0, .int .i64 0, .slice none 0 0], .int .i64 (plnE pw ph n kind W H)]) ∧ Q w w') := fun w hE => plane_bad pw ph ad n c kind W H ml hE w
  go_enter Try.func3, Try.ntmps3
  go_wp2_with fail
  refine C0.mono ?_
  rintro e w2 ⟨rfl, q2⟩
  have HP2 : Hid (Pbx W0 w2 W0.heap.size pw ph (.slice ad n c)) := HP1.out.next q2
  clear C0 q2 hw1 HP1
  have k0 := HP2.out.c0
  have k1 := HP2.out.c1
  have k2 := HP2.out.c2
  go_wp2_with fail
  refine (CS.out w2).mono ?_
  rintro e w3 ⟨rfl, q3⟩
  have HP3 : Hid (Pbx W0 w3 W0.heap.size pw ph (.slice ad n c)) := HP2.out.next q3
  clear CS q3 HP2 k0 k1 k2
  cases B
  · go_wp2_with fail
    go_ret
    exact ⟨rfl, HP3.out.q⟩
  have hn3 := HC.out rfl
  have k0 := HP3.out.c0
  have k1 := HP3.out.c1
  have k2 := HP3.out.c2
  by_cases hE : plnE pw ph n kind W H = 0
  rotate_left
  · have CP := HPN.out w3 hE
    generalize plnE pw ph n kind W H = E at *
    have hE0 : (E != 0) = true := by simpa using hE
    clear hE HPN
    go_wp2_with fail
    refine CP.mono ?_
    rintro e w5 ⟨rfl, q5⟩
    have HQ5 : Hid (Q W0 w5) := HP3.out.q.trans q5
    clear q5 CP k0 k1 k2
    go_wp2_with fail
    go_ret
    first
      | exact ⟨rfl, HQ5.out.cells _ _⟩
      | exact ⟨rfl, (((HQ5.out.cells _ _).set HQ5.out.1.size _).set HQ5.out.1.size _).set HQ5.out.1.size _⟩
  obtain ⟨pa, pb, pW, pH, rfl, rfl, hsz, hnn, rfl, rfl, hWH, hT1, hT2⟩ := plnE_full hE
  obtain ⟨g, o, d, hs, hle, hI⟩ := HU.out.some (by rw [HN.out, hnn]; exact hsz.pos)
  rw [HN.out] at hs
  injection hs with e1 e2 e3
  subst e1 e3
  have CP := plane_good kind pa pb pW pH _ S w3 (HU.out.next HP3.out.q) (by rw [HN.out, hnn]) HB.out (by rw [HN.out]; exact hE) hsz hWH
  have HT : Hid (n = pa * pb ∧ (∀ X, X < pW → tapE kind pa pW X = 0) ∧ (∀ Y, Y < pH → tapE kind pb pH Y = 0) ∧ 0 < pW) := ⟨hnn, fun X hX => tapE_at hT1 (by omega), fun Y hY => tapE_at hT2 (by omega), hWH.a1⟩
  have HI : Hid (∀ i, i < n → ∀ x : World, Q W0 x → x.cell? ⟨g, o + i, none⟩ = some (.int .u32 ((S.getD i 0 : Nat) : Int))) := fun i hi x q => q.cell (hI i (by rw [HN.out]; exact hi))
  have hm2 : pW * pH ≤ 65536 := hWH.ab
  obtain ⟨m, hm⟩ : ∃ m, pW * pH = m := ⟨_, rfl⟩
  have HM : Hid (pW * pH = m) := hm
  obtain ⟨F, hF⟩ : ∃ F, (fun i => whlV kind pa pb pW pH S (i % pW) (i / pW)) = F := ⟨_, rfl⟩
  have HF : Hid (∀ i, F i = whlV kind pa pb pW pH S (i % pW) (i / pW)) := fun i => by rw [← hF]
  rw [hF, hm] at CP
  rw [hm] at hm2
  have hn1 : 1 ≤ n := by rw [hnn]; exact hsz.pos
  have hbW := hWH.a2
  have hbH := hWH.b2
  have hba := hsz.a2
  have hbb := hsz.b2
  clear hF hWH hT1 hT2 hE hsz hnn HPN HC e2 hI hle hm
  go_wp2_with fail
  refine CP.mono ?_
  rintro e w5 ⟨gq, rfl, hu, hl, q5⟩
  have HW : Hid (URow w5 gq (tabN m F) ∧ Pbx W0 w5 W0.heap.size (pa : Int) (pb : Int) (.slice (some ⟨g, o, none⟩) n c)) := ⟨hu, HP3.out.next q5⟩
  clear CP hu hl q5 k0 k1 k2 HP3
  go_wp2_with fail
  go_loopg [11, 12, 13] n (fun k s11 s12 s13 wr => ∃ (i : Nat) (lo hi : Int), s11 = .int .i64 lo ∧ s12 = .int .i64 hi ∧ s13 = .int .i64 (i : Int) ∧ i + k = n ∧ Hid (Ex1 W0 wr W0.heap.size w5.heap.size gq pa pb pW pH m (.slice (some ⟨g, o, none⟩) n c) F S i lo hi))
  case atStart =>
    refine ⟨0, 1099511627776, -1099511627776, rfl, rfl, rfl, by omega, ?_⟩
    show Ex1 _ _ _ _ _ _ _ _ _ _ _ _ _ _ _ _
    refine ⟨HW.out.2.next ((Q.refl w5).cells _ _), ⟨?_, ?_, ?_, HW.out.1.next ((Q.refl w5).cells _ _), HW.out.2.q.cells _ _⟩, ⟨fun j hj => by omega, fun j hj => by omega, fun h => by omega, by decide, fun _ => ⟨rfl, rfl⟩⟩⟩
    · simp [go_sem]
    · simp [go_sem]
    · simp [go_sem]
  case round =>
    obtain ⟨i, lo, hi, rfl, rfl, rfl, hi', HX⟩ := hrel
    have c2 := HX.out.p.c2
    by_cases hlt : i < n
    · have hlt' : (i : Int) < (n : Int) := by omega
      have ci := HI.out i hlt wr HX.out.p.q
      obtain ⟨x, hx⟩ : ∃ x, S.getD i 0 = x := ⟨_, rfl⟩
      have hx4 : x < 4294967296 := by rw [← hx]; exact HB.out i
      have HXx : Hid (S.getD i 0 = x) := hx
      rw [hx] at ci
      clear hx
      have CF := finite_any x hx4 wr
      rcases Nat.lt_or_ge (rung32 x) 2139095040 with hf | hf
      · rw [decide_eq_true hf] at CF
        have HL : Hid (LoHi S (i + 1) (min lo (srung32 x)) (max hi (srung32 x))) := by
          have := HX.out.l.step (by rw [HXx.out]; exact hf)
          rw [HXx.out] at this
          exact this
        have CK : Hid (∀ w : World, Calls Try.prog 10 #[.int .u32 (x : Int)] w fun e w' => e = .returned (.int .i64 (srung32 x)) ∧ w' = w) := fun w => key10_any x hx4 w
        generalize srung32 x = y at CK HL
        have hmn : ∀ (ts : Array TypeId) (t : TypeId) (w : World), (Builtin.min_ ts t #[.int .i64 lo, .int .i64 y]).run Try.prog w = .ok (.int .i64 (min lo y)) w := fun ts t w => run_mn2 ts t _ _ w
        have hmx : ∀ (ts : Array TypeId) (t : TypeId) (w : World), (Builtin.max_ ts t #[.int .i64 hi, .int .i64 y]).run Try.prog w = .ok (.int .i64 (max hi y)) w := fun ts t w => run_mx2 ts t _ _ w
        generalize min lo y = lo2 at hmn HL
        generalize max hi y = hi2 at hmx HL
        clear hf
        go_wp2_with fail
        refine CF.mono ?_
        rintro e w6 ⟨rfl, hw6⟩
        obtain rfl := hw6.symm
        clear hw6 CF
        have n0 := qw_some wr
        have d2 := qw_cell c2
        have di := qw_cell ci
        go_wp2_with fail
        refine wp_region_quiet_Q (by kernel_rfl) (by kernel_rfl) ?_
        repeat (first | go_big_quiet_step (first | (go_at_call 10; exact calls_qs (CK.out _))) | quiet_step (first | (go_at_call 10; exact calls_qs (CK.out _))))
        refine wpQuiet_nil ?_
        intro w7 hw'
        have hq7 := qw_out hw'
        have HX7 : Hid (Ex1 W0 w7 W0.heap.size w5.heap.size gq pa pb pW pH m (.slice (some ⟨g, o, none⟩) n c) F S (i + 1) lo2 hi2) := ⟨HX.out.p.next hq7, HX.out.k.next hq7, HL.out⟩
        clear hw' n0 d2 di hmn hmx hq7 HX c2 ci
        go_wp2_with fail
        go_roundg (n - (i + 1))
        case measure => go_light; omega
        case rel => go_light; exact ⟨i + 1, lo2, hi2, rfl, rfl, by go_num, by omega, HX7⟩
      · rw [decide_eq_false (by omega)] at CF
        clear hf
        go_wp2_with fail
        refine CF.mono ?_
        rintro e w6 ⟨rfl, hw6⟩
        obtain rfl := hw6.symm
        clear hw6 CF
        go_wp2_with fail
        go_ret
        exact ⟨rfl, HX.out.p.q⟩
    · obtain rfl : i = n := by omega
      have hge : ¬ (i : Int) < (i : Int) := by omega
      have hbd := HX.out.l.bd
      have HV : Hid (∀ j, j < m → (F j < 4294967296 ∧ (kind ≠ 3 → rung32 (F j) < 2139095040 ∧ lo ≤ srung32 (F j) ∧ srung32 (F j) ≤ hi) ∧ (kind = 3 → max hi (-lo) ≤ 2071986176 → rung32 (F j) < 2139095040))) := fun j hj => by
        have hj1 : j % pW < pW := Nat.mod_lt j HT.out.2.2.2
        have hj2 : j / pW < pH := Nat.div_lt_of_lt_mul (by rw [HM.out]; exact hj)
        have hX := HT.out.2.1 _ hj1
        have hY := HT.out.2.2.1 _ hj2
        obtain ⟨a, b, e1, e2, e3, e4⟩ := HX.out.l.at_ hn1
        rw [HF.out]
        refine ⟨whl_lt _ _ _ _ _ _ _ _, fun hk => ?_, fun hk hc => ?_⟩
        · have := whl_between (S := S) (lo := S.getD a 0) (hi := S.getD b 0) hk hX hY ⟨HX.out.l.fin a e3, HB.out a⟩ ⟨HX.out.l.fin b e4, HB.out b⟩ (fun k hk => by
            rw [← HT.out.1] at hk
            have := HX.out.l.le k hk
            rw [← e1, ← e2]
            exact ⟨HX.out.l.fin k hk, this⟩)
          rw [← e1, ← e2] at this
          exact ⟨this.2.2, this.1, this.2.1⟩
        · subst hk
          refine cub_fin hX hY (fun k hk => ?_)
          rw [← HT.out.1] at hk
          have := HX.out.l.le k hk
          unfold srung32 at this
          split at this <;> omega
      clear hi'
      go_wp2_with fail
      go_loopg [14] m (fun k s14 wx => ∃ j : Nat, s14 = .int .i64 (j : Int) ∧ j + k = m ∧ Hid (Bk2 W0 wx w5.heap.size gq pW pH m F))
      case atStart => exact ⟨0, rfl, by omega, HX.out.k⟩
      case round =>
        obtain ⟨j, rfl, hj, HY⟩ := hrel
        have o2 := HY.out.o2
        by_cases hlt : j < m
        · have hlt' : (j : Int) < (m : Int) := by omega
          have ck := HY.out.row.cell j _ (tabN_at hlt)
          obtain ⟨v1, v2, v3⟩ := HV.out j hlt
          obtain ⟨x, hx⟩ : ∃ x, F j = x := ⟨_, rfl⟩
          rw [hx] at ck v1 v2 v3
          clear hx
          have CF : Hid (∀ w : World, Calls Try.prog 9 #[.int .u32 (x : Int)] w fun e w' => e = .returned (.bool (decide (rung32 x < 2139095040))) ∧ w' = w) := fun w => finite_any x v1 w
          have CK : Hid (∀ w : World, Calls Try.prog 10 #[.int .u32 (x : Int)] w fun e w' => e = .returned (.int .i64 (srung32 x)) ∧ w' = w) := fun w => key10_any x v1 w
          by_cases hk : kind = 3
          · subst hk
            have h33 : ((3 : Int) != 3) = false := by decide
            have h34 : ((3 : Int) == 3) = true := by decide
            have hmx : ∀ (ts : Array TypeId) (t : TypeId) (w : World), (Builtin.max_ ts t #[.int .i64 hi, .int .i64 (-lo)]).run Try.prog w = .ok (.int .i64 (max hi (-lo))) w := fun ts t w => run_mx2 ts t _ _ w
            have v4 := v3 rfl
            generalize max hi (-lo) = mh at hmx v4
            clear v2 v3
            rcases Int.lt_or_le 2071986176 mh with hc | hc
            · have hc2 : ¬ mh ≤ 2071986176 := by omega
              clear v4
              go_wp2_with fail
              go_roundg (m - (j + 1))
              case measure => go_light; omega
              case rel => go_light; exact ⟨j + 1, by go_num, by omega, HY⟩
            · have hf := v4 hc
              rw [decide_eq_true hf] at CF
              clear v4 hf
              go_wp2_with fail
              refine (CF.out _).mono ?_
              rintro e w6 ⟨rfl, hw6⟩
              obtain rfl := hw6.symm
              clear hw6
              go_wp2_with fail
              go_roundg (m - (j + 1))
              case measure => go_light; omega
              case rel => go_light; exact ⟨j + 1, by go_num, by omega, HY⟩
          · have h33 : (kind != 3) = true := by simpa using hk
            have h34 : (kind == 3) = false := by simpa using hk
            obtain ⟨u1, u2, u3⟩ := v2 hk
            rw [decide_eq_true u1] at CF
            generalize srung32 x = y at CK u2 u3
            have u4 : ¬ y < lo := by omega
            have u5 : ¬ hi < y := by omega
            clear v2 v3 u1
            go_wp2_with fail
            refine (CF.out _).mono ?_
            rintro e w6 ⟨rfl, hw6⟩
            obtain rfl := hw6.symm
            clear hw6
            go_wp2_with fail
            refine (CK.out _).mono ?_
            rintro e w6 ⟨rfl, hw6⟩
            obtain rfl := hw6.symm
            clear hw6
            go_wp2_with fail
            refine (CK.out _).mono ?_
            rintro e w6 ⟨rfl, hw6⟩
            obtain rfl := hw6.symm
            clear hw6
            go_wp2_with fail
            go_roundg (m - (j + 1))
            case measure => go_light; omega
            case rel => go_light; exact ⟨j + 1, by go_num, by omega, HY⟩
        · obtain rfl : j = m := by omega
          have hge2 : ¬ (j : Int) < (j : Int) := by omega
          go_wp2_with fail
          go_ret
          exact ⟨rfl, HY.out.q⟩
end Go.Proofs.Ytcolhgngiflkhaa
/- The statement ScaleRises: its walk. -/
namespace Go.Proofs.Ytcolhgngiflkhaa
open Go.RowKit
set_option linter.unusedVariables false
set_option linter.unusedSimpArgs false

def loF (S O : List Nat) (j : Nat) : Nat := if srung32 (O.getD j 0) < srung32 (S.getD j 0) then O.getD j 0 else S.getD j 0
def hiF (S O : List Nat) (j : Nat) : Nat := if srung32 (O.getD j 0) < srung32 (S.getD j 0) then S.getD j 0 else O.getD j 0
/-- What lies there by now. -/
def mixF (F : Nat → Nat) (S : List Nat) (i : Nat) (j : Nat) : Nat := if j < i then F j else S.getD j 0
structure Ris (W0 x : World) (B g1 g2 : Nat) (pw ph : Int) (sv : Value) (n : Nat) (S O : List Nat) (a1 a2 : Option Addr) (c1 c2 : Nat) (i : Nat) : Prop where
  p : Pbx W0 x B pw ph sv
  lo : Pbx W0 x g1 pw ph (.slice a1 n c1)
  hi : Pbx W0 x g2 pw ph (.slice a2 n c2)
  two : n = 0 ∨ ∃ b1 b2, a1 = some ⟨b1, 0, none⟩ ∧ a2 = some ⟨b2, 0, none⟩ ∧ W0.heap.size < b1 ∧ W0.heap.size < b2 ∧ b1 ≠ b2 ∧ b1 ≠ g1 ∧ b1 ≠ g2 ∧ b2 ≠ g1 ∧ b2 ≠ g2 ∧ (∀ j, j < n → x.cell? ⟨b1, j, none⟩ = some (.int .u32 ((mixF (loF S O) S i j : Nat) : Int))) ∧ (∀ j, j < n → x.cell? ⟨b2, j, none⟩ = some (.int .u32 ((mixF (hiF S O) S i j : Nat) : Int))) ∧ (∀ j, x.frozen? ⟨b1, j, none⟩ = false) ∧ (∀ j, x.frozen? ⟨b2, j, none⟩ = false)
  fin : ∀ j, j < i → rung32 (S.getD j 0) < 2139095040 ∧ rung32 (O.getD j 0) < 2139095040
  gb : W0.heap.size = B
theorem Ris.next {W0 x y : World} {B g1 g2 : Nat} {pw ph : Int} {sv : Value} {n : Nat} {S O : List Nat} {a1 a2 : Option Addr} {c1 c2 i : Nat} (h : Ris W0 x B g1 g2 pw ph sv n S O a1 a2 c1 c2 i) (q : Q x y) : Ris W0 y B g1 g2 pw ph sv n S O a1 a2 c1 c2 i :=
  ⟨h.p.next q, h.lo.next q, h.hi.next q, h.two.imp id fun ⟨b1, b2, e1, e2, e3, e4, e5, e6, e7, e8, e9, r1, r2, f1, f2⟩ => ⟨b1, b2, e1, e2, e3, e4, e5, e6, e7, e8, e9, fun j hj => q.cell (r1 j hj), fun j hj => q.cell (r2 j hj), fun j => by rw [q.2]; exact f1 j, fun j => by rw [q.2]; exact f2 j⟩, h.fin, h.gb⟩
theorem Pbx.set {W0 x : World} {B : Nat} {pw ph : Int} {sv : Value} (h : Pbx W0 x B pw ph sv) {p : Addr} (hb : p.block ≠ B) (hl : W0.heap.size ≤ p.block) (v : Value) : Pbx W0 (x.setCell p v) B pw ph sv := by
  have ne : ∀ j, (⟨B, j, none⟩ : Addr) ≠ p := fun j e => hb (by rw [← e])
  exact ⟨(World.cell?_setCell_other _ _ _ _ (fun e => ne 0 e.symm)).trans h.c0, (World.cell?_setCell_other _ _ _ _ (fun e => ne 1 e.symm)).trans h.c1, (World.cell?_setCell_other _ _ _ _ (fun e => ne 2 e.symm)).trans h.c2, h.q.set hl _⟩
/-- A store of one sample. -/
theorem Ris.put {W0 x : World} {B g1 g2 : Nat} {pw ph : Int} {sv : Value} {n : Nat} {S O : List Nat} {a1 a2 : Option Addr} {c1 c2 i : Nat} (h : Ris W0 x B g1 g2 pw ph sv n S O a1 a2 c1 c2 i) {b1 b2 : Nat} (e1 : a1 = some ⟨b1, 0, none⟩) (e2 : a2 = some ⟨b2, 0, none⟩) (hi : i < n) (hf : rung32 (S.getD i 0) < 2139095040) (hg : rung32 (O.getD i 0) < 2139095040) :
    (srung32 (O.getD i 0) < srung32 (S.getD i 0) → Ris W0 (x.setCell ⟨b1, i, none⟩ (.int .u32 ((O.getD i 0 : Nat) : Int))) B g1 g2 pw ph sv n S O a1 a2 c1 c2 (i + 1)) ∧ (¬ srung32 (O.getD i 0) < srung32 (S.getD i 0) → Ris W0 (x.setCell ⟨b2, i, none⟩ (.int .u32 ((O.getD i 0 : Nat) : Int))) B g1 g2 pw ph sv n S O a1 a2 c1 c2 (i + 1)) := by
  obtain ⟨p1, p2, p3, two, fin, gb⟩ := h
  rcases two with h0 | ⟨d1, d2, e1', e2', l1, l2, n12, n3, n4, n5, n6, r1, r2, f1, f2⟩
  · omega
  rw [e1] at e1'
  rw [e2] at e2'
  injection e1' with e1'
  injection e1' with e1'
  injection e2' with e2'
  injection e2' with e2'
  subst e1' e2'
  have fin' : ∀ j, j < i + 1 → rung32 (S.getD j 0) < 2139095040 ∧ rung32 (O.getD j 0) < 2139095040 := fun j hj => by
    by_cases e : j = i
    · subst e; exact ⟨hf, hg⟩
    · exact fin j (by omega)
  have mix_ne : ∀ (F : Nat → Nat) (j : Nat), j ≠ i → mixF F S (i + 1) j = mixF F S i j := fun F j hj => by
    unfold mixF
    by_cases h : j < i
    · rw [if_pos h, if_pos (by omega)]
    · rw [if_neg h, if_neg (by omega)]
  have mix_eq : ∀ (F : Nat → Nat), mixF F S (i + 1) i = F i := fun F => by unfold mixF; rw [if_pos (by omega)]
  have mix_old : ∀ (F : Nat → Nat), mixF F S i i = S.getD i 0 := fun F => by unfold mixF; rw [if_neg (by omega)]
  have hc1 := r1 i hi
  have hc2 := r2 i hi
  constructor
  · intro hlt
    refine ⟨p1.set (by show b1 ≠ _; omega) (by show _ ≤ b1; omega) _, p2.set (by show b1 ≠ _; omega) (by show _ ≤ b1; omega) _, p3.set (by show b1 ≠ _; omega) (by show _ ≤ b1; omega) _, Or.inr ⟨b1, b2, e1, e2, l1, l2, n12, n3, n4, n5, n6, fun j hj => ?_, fun j hj => ?_, fun j => by rw [World.frozen?_setCell]; exact f1 j, fun j => by rw [World.frozen?_setCell]; exact f2 j⟩, fin', gb⟩
    · by_cases e : j = i
      · subst e
        rw [mix_eq, show loF S O j = O.getD j 0 by unfold loF; rw [if_pos hlt]]
        exact World.cell?_setCell_same _ _ _ hc1
      · rw [mix_ne _ _ e]
        exact (World.cell?_setCell_other _ _ _ _ (fun h => e (by injection h with _ h; exact h.symm))).trans (r1 j hj)
    · have hd : mixF (hiF S O) S (i + 1) j = mixF (hiF S O) S i j := by
        by_cases e : j = i
        · subst e
          rw [mix_eq, mix_old]; unfold hiF; rw [if_pos hlt]
        · exact mix_ne _ _ e
      rw [hd]
      exact (World.cell?_setCell_other _ _ _ _ (fun h => n12 (by injection h))).trans (r2 j hj)
  · intro hlt
    refine ⟨p1.set (by show b2 ≠ _; omega) (by show _ ≤ b2; omega) _, p2.set (by show b2 ≠ _; omega) (by show _ ≤ b2; omega) _, p3.set (by show b2 ≠ _; omega) (by show _ ≤ b2; omega) _, Or.inr ⟨b1, b2, e1, e2, l1, l2, n12, n3, n4, n5, n6, fun j hj => ?_, fun j hj => ?_, fun j => by rw [World.frozen?_setCell]; exact f1 j, fun j => by rw [World.frozen?_setCell]; exact f2 j⟩, fin', gb⟩
    · have hd : mixF (loF S O) S (i + 1) j = mixF (loF S O) S i j := by
        by_cases e : j = i
        · subst e
          rw [mix_eq, mix_old]; unfold loF; rw [if_neg hlt]
        · exact mix_ne _ _ e
      rw [hd]
      exact (World.cell?_setCell_other _ _ _ _ (fun h => n12 (by injection h with h; exact h.symm))).trans (r1 j hj)
    · by_cases e : j = i
      · subst e
        rw [mix_eq, show hiF S O j = O.getD j 0 by unfold hiF; rw [if_neg hlt]]
        exact World.cell?_setCell_same _ _ _ hc2
      · rw [mix_ne _ _ e]
        exact (World.cell?_setCell_other _ _ _ _ (fun h => e (by injection h with _ h; exact h.symm))).trans (r2 j hj)
theorem ris_usl {n b c : Nat} {x : World} {F : Nat → Nat} (hc : n ≤ c) (h : ∀ j, j < n → x.cell? ⟨b, j, none⟩ = some (.int .u32 ((F j : Nat) : Int))) : USl x (.slice (some ⟨b, 0, none⟩) n c) (tabN n F) := by
  have hl : (tabN n F).length = n := by unfold tabN; simp
  refine Or.inl ⟨b, 0, c, by rw [hl], by rw [hl]; exact hc, fun i hi => ?_⟩
  rw [hl] at hi
  rw [Nat.zero_add, tabN_getD hi]
  exact h i hi
theorem lohi_facts {S O : List Nat} {j : Nat} (h1 : rung32 (S.getD j 0) < 2139095040) (h2 : rung32 (O.getD j 0) < 2139095040) : rung32 (loF S O j) < 2139095040 ∧ rung32 (hiF S O j) < 2139095040 ∧ srung32 (loF S O j) ≤ srung32 (hiF S O j) := by
  unfold loF hiF
  split
  · exact ⟨h2, h1, by omega⟩
  · exact ⟨h1, h2, by omega⟩
set_option maxHeartbeats 8000000 in
set_option maxRecDepth 100000 in
theorem srise_walk (W0 : World) (pw ph kind W H : Int) (sv ov : Value) (S O : List Nat) (us : USl W0 sv S) (uo : USl W0 ov O) (ml : S.length ≤ 9223372036854775807) (hb : ∀ i, S.getD i 0 < 4294967296) (ho : ∀ i, O.getD i 0 < 4294967296) :
    Calls Try.prog 4 #[.agg #[.int .i64 pw, .int .i64 ph, sv], ov, .int .i64 kind, .int .i64 W, .int .i64 H] W0 fun e w' => e = .returned (.bool true) ∧ Q W0 w' := by
  obtain ⟨ad, c, rfl⟩ := us.form
  obtain ⟨ao, co, rfl⟩ := uo.form
  obtain ⟨n, hn⟩ : ∃ n, S.length = n := ⟨_, rfl⟩
  obtain ⟨m, hm⟩ : ∃ m, O.length = m := ⟨_, rfl⟩
  have HU : Hid (USl W0 (.slice ad n c) S) := by rw [hn] at us; exact us
  have HO : Hid (USl W0 (.slice ao m co) O) := by rw [hm] at uo; exact uo
  have HN : Hid (S.length = n) := hn
  have HM : Hid (O.length = m) := hm
  have HB : Hid (∀ i, S.getD i 0 < 4294967296) := hb
  have HBO : Hid (∀ i, O.getD i 0 < 4294967296) := ho
  rw [hn] at ml ⊢
  rw [hm]
  clear us uo hn hm hb ho
  obtain ⟨w1, hw1⟩ : ∃ w1, W0.alloc (.cells #[.int .i64 pw, .int .i64 ph, .slice ad n c] 24) = w1 := ⟨_, rfl⟩
  have HP1 : Hid (Pbx W0 w1 W0.heap.size pw ph (.slice ad n c)) := by
    show Pbx _ _ _ _ _ _
    rw [← hw1]
    exact ⟨by simp [go_sem], by simp [go_sem], by simp [go_sem], (Q.refl W0).cells _ _⟩
  have C0 := known10_any w1
  have CS : Hid (∀ w : World, Calls Try.prog 7 #[.agg #[.int .i64 pw, .int .i64 ph, .slice ad n c], .int .i64 W, .int .i64 H] w fun e w' => e = .returned (.bool (smlP pw ph n W H)) ∧ Q w w') := fun w => smallp_any pw ph ad n c W H w
  have HC : Hid (smlP pw ph n W H = true → (n : Int) ≤ 3000) := fun h => by unfold smlP at h; exact (of_decide_eq_true h).1.1
  generalize smlP pw ph n W H = B at CS HC
  cases B
  · clear HC
    go_enter Try.func4, Try.ntmps4
    go_wp2_with fail
    refine C0.mono ?_
    rintro e w2 ⟨rfl, q2⟩
    have HP2 : Hid (Pbx W0 w2 W0.heap.size pw ph (.slice ad n c)) := HP1.out.next q2
    clear C0 q2 hw1 HP1
    have k0 := HP2.out.c0
    have k1 := HP2.out.c1
    have k2 := HP2.out.c2
    go_wp2_with fail
    refine (CS.out w2).mono ?_
    rintro e w3 ⟨rfl, q3⟩
    have HP3 : Hid (Pbx W0 w3 W0.heap.size pw ph (.slice ad n c)) := HP2.out.next q3
    clear CS q3 HP2 k0 k1 k2
    have k0 := HP3.out.c0
    have k1 := HP3.out.c1
    have k2 := HP3.out.c2
    go_wp2_with fail
    go_ret
    exact ⟨rfl, HP3.out.q⟩
  have hn3 : (n : Int) ≤ 3000 := HC.out rfl
  clear HC
  by_cases hk : kind = 3
  · subst hk
    have hk3 : ((3 : Int) == 3) = true := by decide
    go_enter Try.func4, Try.ntmps4
    go_wp2_with fail
    refine C0.mono ?_
    rintro e w2 ⟨rfl, q2⟩
    have HP2 : Hid (Pbx W0 w2 W0.heap.size pw ph (.slice ad n c)) := HP1.out.next q2
    clear C0 q2 hw1 HP1
    have k0 := HP2.out.c0
    have k1 := HP2.out.c1
    have k2 := HP2.out.c2
    go_wp2_with fail
    refine (CS.out w2).mono ?_
    rintro e w3 ⟨rfl, q3⟩
    have HP3 : Hid (Pbx W0 w3 W0.heap.size pw ph (.slice ad n c)) := HP2.out.next q3
    clear CS q3 HP2 k0 k1 k2
    have k0 := HP3.out.c0
    have k1 := HP3.out.c1
    have k2 := HP3.out.c2
    go_wp2_with fail
    go_ret
    exact ⟨rfl, HP3.out.q⟩
  have hk3 : (kind == 3) = false := by simpa using hk
  have HK3 : Hid (kind ≠ 3) := hk
  clear hk
  rcases Nat.lt_or_ge m n with hmn | hmn
  · have hmn' : (m : Int) < (n : Int) := by omega
    go_enter Try.func4, Try.ntmps4
    go_wp2_with fail
    refine C0.mono ?_
    rintro e w2 ⟨rfl, q2⟩
    have HP2 : Hid (Pbx W0 w2 W0.heap.size pw ph (.slice ad n c)) := HP1.out.next q2
    clear C0 q2 hw1 HP1
    have k0 := HP2.out.c0
    have k1 := HP2.out.c1
    have k2 := HP2.out.c2
    go_wp2_with fail
    refine (CS.out w2).mono ?_
    rintro e w3 ⟨rfl, q3⟩
    have HP3 : Hid (Pbx W0 w3 W0.heap.size pw ph (.slice ad n c)) := HP2.out.next q3
    clear CS q3 HP2 k0 k1 k2
    have k0 := HP3.out.c0
    have k1 := HP3.out.c1
    have k2 := HP3.out.c2
    go_wp2_with fail
    go_ret
    exact ⟨rfl, HP3.out.q⟩
  have hmn' : ¬ (m : Int) < (n : Int) := by omega
  have hmnd : decide (m < n) = false := decide_eq_false (by omega)
  go_enter Try.func4, Try.ntmps4
  go_wp2_with fail
  refine C0.mono ?_
  rintro e w2 ⟨rfl, q2⟩
  have HP2 : Hid (Pbx W0 w2 W0.heap.size pw ph (.slice ad n c)) := HP1.out.next q2
  clear C0 q2 hw1 HP1
  have k0 := HP2.out.c0
  have k1 := HP2.out.c1
  have k2 := HP2.out.c2
  go_wp2_with fail
  refine (CS.out w2).mono ?_
  rintro e w3 ⟨rfl, q3⟩
  have HP3 : Hid (Pbx W0 w3 W0.heap.size pw ph (.slice ad n c)) := HP2.out.next q3
  clear CS q3 HP2 k0 k1 k2
  have k0 := HP3.out.c0
  have k1 := HP3.out.c1
  have k2 := HP3.out.c2
  go_wp2_with fail
  have HCC : Hid (∀ x : World, Q w3 x → Calls Try.prog 11 #[.agg #[.int .i64 pw, .int .i64 ph, .slice ad n c]] x fun e x' => ∃ v, e = .returned v ∧ CpV pw ph n S x.heap.size x'.heap.size x' v ∧ Q x x') := fun x q => hcopy_cp pw ph ad n c S x (HU.out.next (HP3.out.q.trans q)) HN.out (by omega)
  refine regionCp (pw := pw) (ph := ph) (ad := ad) (n := n) (c := c) (b5 := W0.heap.size) (S := S) rfl rfl ⟨rfl, k0, k1, k2, HCC.out⟩ ?_
  intro w4 a1 c1 a2 c2 g1 g2 HT
  rw [normCp]
  clear k0 k1 k2 HCC
  have hlw3 : W0.heap.size < w3.heap.size := World.block_lt_of_cell? _ _ HP3.out.c0
  have HR : Hid (Ris W0 w4 W0.heap.size g1 g2 pw ph (.slice ad n c) n S O a1 a2 c1 c2 0) := by
    refine ⟨HP3.out.next HT.q, ⟨HT.c10, HT.c11, HT.c12, HP3.out.q.trans HT.q⟩, ⟨HT.c20, HT.c21, HT.c22, HP3.out.q.trans HT.q⟩, ?_, fun j hj => by omega, rfl⟩
    rcases HT.two with h0 | ⟨b1, b2, e1, e2, l1, l2, n1, n2, n3, n4, n5, u1, u2, f1, f2⟩
    · exact Or.inl h0
    · refine Or.inr ⟨b1, b2, e1, e2, by omega, by omega, n1, n2, n3, n4, n5, fun j hj => ?_, fun j hj => ?_, f1, f2⟩
      · have := u1 j (by rw [HN.out]; exact hj)
        rw [Nat.zero_add] at this
        exact this
      · have := u2 j (by rw [HN.out]; exact hj)
        rw [Nat.zero_add] at this
        exact this
  have HCN : Hid (n ≤ c1 ∧ n ≤ c2) := ⟨HT.k1, HT.k2⟩
  have HGL : Hid (W0.heap.size < g1 ∧ W0.heap.size < g2) := ⟨by have := HT.l1; omega, by have := HT.l2; omega⟩
  clear HT HP3
  go_wp2_with fail
  go_loopg [13] n (fun k s13 wr => ∃ (i : Nat), s13 = .int .i64 (i : Int) ∧ i + k = n ∧ Hid (Ris W0 wr W0.heap.size g1 g2 pw ph (.slice ad n c) n S O a1 a2 c1 c2 i))
  case atStart => exact ⟨0, rfl, by omega, HR⟩
  case round =>
    clear HR
    obtain ⟨i, rfl, hi', HX⟩ := hrel
    have c2' := HX.out.p.c2
    by_cases hlt : i < n
    · have hlt' : (i : Int) < (n : Int) := by omega
      have hltm : (i : Int) < (m : Int) := by omega
      obtain ⟨g, o, d, hs, hle, hI⟩ := HU.out.some (by rw [HN.out]; omega)
      rw [HN.out] at hs
      injection hs with e1 e2 e3
      subst e1 e3
      obtain ⟨g', o', d', hs', hle', hI'⟩ := HO.out.some (by rw [HM.out]; omega)
      rw [HM.out] at hs'
      injection hs' with f1 f2 f3
      subst f1 f3
      have ci := HX.out.p.q.cell (hI i (by rw [HN.out]; exact hlt))
      have di := HX.out.p.q.cell (hI' i (by rw [HM.out]; omega))
      obtain ⟨b1, b2, ea, eb, hbb⟩ : ∃ b1 b2, a1 = some ⟨b1, 0, none⟩ ∧ a2 = some ⟨b2, 0, none⟩ ∧ (∃ u, wr.cell? ⟨b1, i, none⟩ = some u) ∧ (∃ u, wr.cell? ⟨b2, i, none⟩ = some u) ∧ wr.frozen? ⟨b1, i, none⟩ = false ∧ wr.frozen? ⟨b2, i, none⟩ = false := by
        rcases HX.out.two with h0 | ⟨b1, b2, e1, e2, l1, l2, n1, n2, n3, n4, n5, u1, u2, z1, z2⟩
        · omega
        · exact ⟨b1, b2, e1, e2, ⟨_, u1 i hlt⟩, ⟨_, u2 i hlt⟩, z1 i, z2 i⟩
      subst ea eb
      have HPUT := HX.out.put (b1 := b1) (b2 := b2) rfl rfl hlt
      have hx4 := HB.out i
      have hy4 := HBO.out i
      obtain ⟨x, hx⟩ : ∃ x, S.getD i 0 = x := ⟨_, rfl⟩
      obtain ⟨y, hy⟩ : ∃ y, O.getD i 0 = y := ⟨_, rfl⟩
      rw [hx] at ci hx4 HPUT
      rw [hy] at di hy4 HPUT
      have CF : Hid (∀ w : World, Calls Try.prog 9 #[.int .u32 (x : Int)] w fun e w' => e = .returned (.bool (decide (rung32 x < 2139095040))) ∧ w' = w) := fun w => finite_any x hx4 w
      have CG : Hid (∀ w : World, Calls Try.prog 9 #[.int .u32 (y : Int)] w fun e w' => e = .returned (.bool (decide (rung32 y < 2139095040))) ∧ w' = w) := fun w => finite_any y hy4 w
      have CK : Hid (∀ (z : Nat) (w : World), (z = x ∨ z = y) → Calls Try.prog 10 #[.int .u32 (z : Int)] w fun e w' => e = .returned (.int .i64 (srung32 z)) ∧ w' = w) := fun z w hz => key10_any z (by rcases hz with rfl | rfl <;> assumption) w
      obtain ⟨⟨u1, hu1⟩, ⟨u2, hu2⟩, hz1, hz2⟩ := hbb
      have HXY : Hid (S.getD i 0 = x ∧ O.getD i 0 = y) := ⟨hx, hy⟩
      clear hx hy hI hI' e2 f2 hle hle' HPUT
      rcases Nat.lt_or_ge (rung32 x) 2139095040 with hf | hf
      rotate_left
      · rw [decide_eq_false (by omega)] at CF
        clear hf
        go_wp2_with fail
        refine (CF.out _).mono ?_
        rintro e w6 ⟨rfl, hw6⟩
        obtain rfl := hw6.symm
        clear hw6
        go_wp2_with fail
        go_ret
        exact ⟨rfl, HX.out.p.q⟩
      rw [decide_eq_true hf] at CF
      rcases Nat.lt_or_ge (rung32 y) 2139095040 with hg | hg
      rotate_left
      · rw [decide_eq_false (by omega)] at CG
        clear hg
        go_wp2_with fail
        refine (CF.out _).mono ?_
        rintro e w6 ⟨rfl, hw6⟩
        obtain rfl := hw6.symm
        clear hw6
        go_wp2_with fail
        refine (CG.out _).mono ?_
        rintro e w6 ⟨rfl, hw6⟩
        obtain rfl := hw6.symm
        clear hw6
        go_wp2_with fail
        go_ret
        exact ⟨rfl, HX.out.p.q⟩
      rw [decide_eq_true hg] at CG
      by_cases hcmp : srung32 y < srung32 x
      · have HCM : Hid (srung32 y < srung32 x) := hcmp
        go_wp2_with fail
        refine (CF.out _).mono ?_
        rintro e w6 ⟨rfl, hw6⟩
        obtain rfl := hw6.symm
        clear hw6
        go_wp2_with fail
        refine (CG.out _).mono ?_
        rintro e w6 ⟨rfl, hw6⟩
        obtain rfl := hw6.symm
        clear hw6
        have n0 := qw_some wr
        have q1 := qw_cell ci
        have q2 := qw_cell di
        have q3 := qw_cell c2'
        go_wp2_with fail
        refine wp_region_quiet_Q (by kernel_rfl) (by kernel_rfl) ?_
        repeat (first | go_big_quiet_step (first | (go_at_call 10; exact calls_qs (CK.out _ _ (by first | exact Or.inl rfl | exact Or.inr rfl)))) | quiet_step (first | (go_at_call 10; exact calls_qs (CK.out _ _ (by first | exact Or.inl rfl | exact Or.inr rfl)))))
        refine wpQuiet_nil ?_
        intro w7 hw'
        have hq7 := qw_out hw'
        clear n0 q1 q2 q3
        have n0 := qw_some w7
        have d1 := qw_cell (hq7.cell di)
        have d2 := qw_cell (hq7.cell HX.out.lo.c2)
        have d3 := hq7.cell hu1
        have d4 : w7.frozen? ⟨b1, i, none⟩ = false := by rw [hq7.2]; exact hz1
        clear ci di c2' hw' CF CG CK
        go_wp2_with fail
        refine wp_region_mk [0, 1, 2, 3, 4, 5, 6, 7] [[8]] 1 _ (by kernel_rfl) (by kernel_rfl) rfl (by kernel_rfl) ?_
        simp only [List.filterMap_cons, List.filterMap_nil, List.getElem?_cons_zero, List.getElem?_cons_succ]
        repeat (first | go_big_quiet_step (fail) | quiet_step (fail))
        refine wpQuiet_nil ?_
        intro w8 hx8
        have d5 := hx8.cell d3
        have d6 : w8.frozen? ⟨b1, i, none⟩ = false := by rw [hx8.2]; exact d4
        refine tree_skipF 8 rfl rfl rfl (x' := w8.setCell ⟨b1, i, none⟩ (.int .u32 (y : Int))) (by simp [execOp, go_sem, d5, d6]) ?_
        refine tree_nil ?_
        have HP10 : Hid (Ris W0 (w8.setCell ⟨b1, i, none⟩ (.int .u32 (y : Int))) W0.heap.size g1 g2 pw ph (.slice (some ⟨g, o, none⟩) n c) n S O (some ⟨b1, 0, none⟩) (some ⟨b2, 0, none⟩) c1 c2 (i + 1)) := by
          have := (((HX.out.next hq7).next hx8).put (b1 := b1) (b2 := b2) rfl rfl hlt (by rw [HXY.out.1]; exact hf) (by rw [HXY.out.2]; exact hg)).1
          rw [HXY.out.1, HXY.out.2] at this
          exact this HCM.out
        generalize w8.setCell ⟨b1, i, none⟩ (.int .u32 (y : Int)) = w9 at HP10 ⊢
        clear n0 d1 d2 d3 d4 d5 d6 hx8
        go_wp2_with fail
        go_roundg (n - (i + 1))
        case measure => go_light; omega
        case rel => go_light; exact ⟨i + 1, by go_num, by omega, HP10⟩
      · have HCM : Hid (srung32 x ≤ srung32 y) := Int.not_lt.1 hcmp
        go_wp2_with fail
        refine (CF.out _).mono ?_
        rintro e w6 ⟨rfl, hw6⟩
        obtain rfl := hw6.symm
        clear hw6
        go_wp2_with fail
        refine (CG.out _).mono ?_
        rintro e w6 ⟨rfl, hw6⟩
        obtain rfl := hw6.symm
        clear hw6
        have n0 := qw_some wr
        have q1 := qw_cell ci
        have q2 := qw_cell di
        have q3 := qw_cell c2'
        go_wp2_with fail
        refine wp_region_quiet_Q (by kernel_rfl) (by kernel_rfl) ?_
        repeat (first | go_big_quiet_step (first | (go_at_call 10; exact calls_qs (CK.out _ _ (by first | exact Or.inl rfl | exact Or.inr rfl)))) | quiet_step (first | (go_at_call 10; exact calls_qs (CK.out _ _ (by first | exact Or.inl rfl | exact Or.inr rfl)))))
        refine wpQuiet_nil ?_
        intro w7 hw'
        have hq7 := qw_out hw'
        clear n0 q1 q2 q3
        have n0 := qw_some w7
        have d1 := qw_cell (hq7.cell di)
        have d2 := qw_cell (hq7.cell HX.out.hi.c2)
        have d3 := hq7.cell hu2
        have d4 : w7.frozen? ⟨b2, i, none⟩ = false := by rw [hq7.2]; exact hz2
        clear ci di c2' hw' CF CG CK
        go_wp2_with fail
        refine wp_region_mk [0, 1, 2, 3, 4, 5, 6, 7] [[8]] 1 _ (by kernel_rfl) (by kernel_rfl) rfl (by kernel_rfl) ?_
        simp only [List.filterMap_cons, List.filterMap_nil, List.getElem?_cons_zero, List.getElem?_cons_succ]
        repeat (first | go_big_quiet_step (fail) | quiet_step (fail))
        refine wpQuiet_nil ?_
        intro w8 hx8
        have d5 := hx8.cell d3
        have d6 : w8.frozen? ⟨b2, i, none⟩ = false := by rw [hx8.2]; exact d4
        refine tree_skipF 8 rfl rfl rfl (x' := w8.setCell ⟨b2, i, none⟩ (.int .u32 (y : Int))) (by simp [execOp, go_sem, d5, d6]) ?_
        refine tree_nil ?_
        have HP10 : Hid (Ris W0 (w8.setCell ⟨b2, i, none⟩ (.int .u32 (y : Int))) W0.heap.size g1 g2 pw ph (.slice (some ⟨g, o, none⟩) n c) n S O (some ⟨b1, 0, none⟩) (some ⟨b2, 0, none⟩) c1 c2 (i + 1)) := by
          have := (((HX.out.next hq7).next hx8).put (b1 := b1) (b2 := b2) rfl rfl hlt (by rw [HXY.out.1]; exact hf) (by rw [HXY.out.2]; exact hg)).2
          rw [HXY.out.1, HXY.out.2] at this
          exact this (Int.not_lt.2 HCM.out)
        generalize w8.setCell ⟨b2, i, none⟩ (.int .u32 (y : Int)) = w9 at HP10 ⊢
        clear n0 d1 d2 d3 d4 d5 d6 hx8
        go_wp2_with fail
        go_roundg (n - (i + 1))
        case measure => go_light; omega
        case rel => go_light; exact ⟨i + 1, by go_num, by omega, HP10⟩
    · obtain rfl : i = n := by omega
      have hge : ¬ (i : Int) < (i : Int) := by omega
      have l0 := HX.out.lo.c0
      have l1 := HX.out.lo.c1
      have l2 := HX.out.lo.c2
      by_cases hE : plnE pw ph i kind W H = 0
      · obtain ⟨pa, pb, pW, pH, rfl, rfl, hsz, hnn, rfl, rfl, hWH, hT1, hT2⟩ := plnE_full hE
        have hi1 : 1 ≤ i := by rw [hnn]; exact hsz.pos
        obtain ⟨b1, b2, ea, eb, r1, r2⟩ : ∃ b1 b2, a1 = some ⟨b1, 0, none⟩ ∧ a2 = some ⟨b2, 0, none⟩ ∧ (∀ j, j < i → wr.cell? ⟨b1, j, none⟩ = some (.int .u32 ((loF S O j : Nat) : Int))) ∧ (∀ j, j < i → wr.cell? ⟨b2, j, none⟩ = some (.int .u32 ((hiF S O j : Nat) : Int))) := by
          rcases HX.out.two with h0 | ⟨b1, b2, e1, e2, _, _, _, _, _, _, _, u1, u2, _, _⟩
          · omega
          · refine ⟨b1, b2, e1, e2, fun j hj => ?_, fun j hj => ?_⟩
            · have := u1 j hj
              unfold mixF at this
              rw [if_pos hj] at this
              exact this
            · have := u2 j hj
              unfold mixF at this
              rw [if_pos hj] at this
              exact this
        subst ea eb
        have hE' : plnE pa pb i kind pW pH = 0 := hE
        have hlen : ∀ F : Nat → Nat, (tabN i F).length = i := fun F => by unfold tabN; simp
        have hlt4 : ∀ (F : Nat → Nat), (∀ j, F j < 4294967296) → ∀ j, (tabN i F).getD j 0 < 4294967296 := fun F hF j => by
          rcases Nat.lt_or_ge j i with h | h
          · rw [tabN_getD h]; exact hF j
          · rw [List.getD_eq_getElem?_getD, List.getElem?_eq_none (by rw [hlen]; exact h)]; decide
        have lo4 : ∀ j, loF S O j < 4294967296 := fun j => by unfold loF; split <;> first | exact HBO.out j | exact HB.out j
        have hi4 : ∀ j, hiF S O j < 4294967296 := fun j => by unfold hiF; split <;> first | exact HBO.out j | exact HB.out j
        have CP1 := plane_good kind pa pb pW pH (.slice (some ⟨b1, 0, none⟩) i c1) (tabN i (loF S O)) wr (ris_usl HCN.out.1 r1) (by rw [hlen, hnn]) (hlt4 _ lo4) (by rw [hlen]; exact hE') hsz hWH
        have CP2 : Hid (∀ x : World, Q wr x → Calls Try.prog 8 #[.agg #[.int .i64 (pa : Int), .int .i64 (pb : Int), .slice (some ⟨b2, 0, none⟩) i c2], .int .i64 kind, .int .i64 (pW : Int), .int .i64 (pH : Int)] x fun e w' => ∃ g, e = .returned (.tuple #[.agg #[.int .i64 (pW : Int), .int .i64 (pH : Int), .slice (some ⟨g, 0, none⟩) (pW * pH) (pW * pH)], .int .i64 0]) ∧ URow w' g (tabN (pW * pH) fun j => whlV kind pa pb pW pH (tabN i (hiF S O)) (j % pW) (j / pW)) ∧ x.heap.size ≤ g ∧ Q x w') := fun x q => plane_good kind pa pb pW pH (.slice (some ⟨b2, 0, none⟩) i c2) (tabN i (hiF S O)) x ((ris_usl HCN.out.2 r2).next q) (by rw [hlen, hnn]) (hlt4 _ hi4) (by rw [hlen]; exact hE') hsz hWH
        have HV : Hid (∀ j, j < pW * pH → srung32 (whlV kind pa pb pW pH (tabN i (loF S O)) (j % pW) (j / pW)) ≤ srung32 (whlV kind pa pb pW pH (tabN i (hiF S O)) (j % pW) (j / pW))) := fun j hj => by
          have hX : tapE kind pa pW ((j % pW : Nat) : Int) = 0 := tapE_at hT1 (by have := Nat.mod_lt j (show 0 < pW by have := hWH.a1; omega); omega)
          have hY : tapE kind pb pH ((j / pW : Nat) : Int) = 0 := tapE_at hT2 (by have := Nat.div_lt_of_lt_mul hj; omega)
          refine whl_rises HK3.out hX hY (fun k hk => ?_) (fun k hk => ?_) (fun k hk => ?_)
          · rw [← hnn] at hk; rw [tabN_getD hk]; exact (lohi_facts (HX.out.fin k hk).1 (HX.out.fin k hk).2).1
          · rw [← hnn] at hk; rw [tabN_getD hk]; exact (lohi_facts (HX.out.fin k hk).1 (HX.out.fin k hk).2).2.1
          · rw [← hnn] at hk; rw [tabN_getD hk, tabN_getD hk]; exact (lohi_facts (HX.out.fin k hk).1 (HX.out.fin k hk).2).2.2
        obtain ⟨F1, hF1⟩ : ∃ F, (fun j => whlV kind pa pb pW pH (tabN i (loF S O)) (j % pW) (j / pW)) = F := ⟨_, rfl⟩
        obtain ⟨F2, hF2⟩ : ∃ F, (fun j => whlV kind pa pb pW pH (tabN i (hiF S O)) (j % pW) (j / pW)) = F := ⟨_, rfl⟩
        have HV2 : Hid (∀ j, j < pW * pH → srung32 (F1 j) ≤ srung32 (F2 j) ∧ F1 j < 4294967296 ∧ F2 j < 4294967296) := fun j hj => by
          rw [← hF1, ← hF2]; exact ⟨HV.out j hj, whl_lt _ _ _ _ _ _ _ _, whl_lt _ _ _ _ _ _ _ _⟩
        rw [hF1] at CP1
        rw [hF2] at CP2
        have hm2 : pW * pH ≤ 65536 := hWH.ab
        obtain ⟨nq, hnq⟩ : ∃ nq, pW * pH = nq := ⟨_, rfl⟩
        rw [hnq] at CP1 CP2 HV2 hm2
        have hbW := hWH.a2
        have hbH := hWH.b2
        clear hF1 hF2 HV hWH hT1 hT2 hE hE' hsz hnn hlen hlt4 lo4 hi4 r1 r2 hnq
        go_wp2_with fail
        refine CP1.mono ?_
        rintro e w5 ⟨gq, rfl, hu, hl, q5⟩
        have hx6 := HX.out.next (q5.cells #[.int .i64 (pW : Int), .int .i64 (pH : Int), .slice (some ⟨gq, 0, none⟩) nq nq] 24)
        have m0 := hx6.hi.c0
        have m1 := hx6.hi.c1
        have m2 := hx6.hi.c2
        obtain ⟨w6, hw6⟩ : ∃ w6, w5.alloc (.cells #[.int .i64 (pW : Int), .int .i64 (pH : Int), .slice (some ⟨gq, 0, none⟩) nq nq] 24) = w6 := ⟨_, rfl⟩
        rw [hw6] at m0 m1 m2 hx6
        have HK6 : Hid (Bk2 W0 w6 w5.heap.size gq pW pH nq F1) := by
          show Bk2 _ _ _ _ _ _ _ _
          rw [← hw6]
          exact ⟨by simp [go_sem], by simp [go_sem], by simp [go_sem], hu.next ((Q.refl w5).cells _ _), (HX.out.p.q.trans q5).cells _ _⟩
        have CP3 := CP2.out w6 (by rw [← hw6]; exact q5.cells _ _)
        clear CP1 CP2 hu hl q5 l0 l1 l2 hx6
        go_wp2_with fail
        refine CP3.mono ?_
        rintro e w7 ⟨gr, rfl, hu, hl, q7⟩
        obtain ⟨w8, hw8⟩ : ∃ w8, w7.alloc (.cells #[.int .i64 (pW : Int), .int .i64 (pH : Int), .slice (some ⟨gr, 0, none⟩) nq nq] 24) = w8 := ⟨_, rfl⟩
        have HK8 : Hid (Bk2 W0 w8 w5.heap.size gq pW pH nq F1 ∧ Bk2 W0 w8 w7.heap.size gr pW pH nq F2) := by
          show Bk2 _ _ _ _ _ _ _ _ ∧ Bk2 _ _ _ _ _ _ _ _
          rw [← hw8]
          exact ⟨HK6.out.next (q7.cells _ _), ⟨by simp [go_sem], by simp [go_sem], by simp [go_sem], hu.next ((Q.refl w7).cells _ _), (HK6.out.q.trans q7).cells _ _⟩⟩
        clear CP3 hu hl q7 m0 m1 m2 hw6 HK6
        go_wp2_with fail
        go_loopg [18] nq (fun k s18 wx => ∃ j : Nat, s18 = .int .i64 (j : Int) ∧ j + k = nq ∧ Hid (Bk2 W0 wx w5.heap.size gq pW pH nq F1 ∧ Bk2 W0 wx w7.heap.size gr pW pH nq F2))
        case atStart => exact ⟨0, rfl, by omega, HK8⟩
        case round =>
          clear hw8 HK8
          obtain ⟨j, rfl, hj, HY⟩ := hrel
          have o2 := HY.out.1.o2
          have p2 := HY.out.2.o2
          by_cases hlt : j < nq
          · have hlt' : (j : Int) < (nq : Int) := by omega
            have ck := HY.out.1.row.cell j _ (tabN_at hlt)
            have dk := HY.out.2.row.cell j _ (tabN_at hlt)
            obtain ⟨v1, v2, v3⟩ := HV2.out j hlt
            generalize F1 j = x at *
            generalize F2 j = y at *
            have CK : Hid (∀ (z : Nat) (w : World), (z = x ∨ z = y) → Calls Try.prog 10 #[.int .u32 (z : Int)] w fun e w' => e = .returned (.int .i64 (srung32 z)) ∧ w' = w) := fun z w hz => key10_any z (by rcases hz with rfl | rfl <;> assumption) w
            have v4 : ¬ srung32 y < srung32 x := by omega
            have n0 := qw_some wr
            have q1 := qw_cell ck
            have q2 := qw_cell dk
            have q3 := qw_cell o2
            have q4 := qw_cell p2
            go_wp2_with fail
            refine wp_region_quiet_Q (by kernel_rfl) (by kernel_rfl) ?_
            repeat (first | go_big_quiet_step (first | (go_at_call 10; exact calls_qs (CK.out _ _ (by first | exact Or.inl rfl | exact Or.inr rfl)))) | quiet_step (first | (go_at_call 10; exact calls_qs (CK.out _ _ (by first | exact Or.inl rfl | exact Or.inr rfl)))))
            refine wpQuiet_nil ?_
            intro w9 hw'
            have hq9 := qw_out hw'
            have HY9 : Hid (Bk2 W0 w9 w5.heap.size gq pW pH nq F1 ∧ Bk2 W0 w9 w7.heap.size gr pW pH nq F2) := ⟨HY.out.1.next hq9, HY.out.2.next hq9⟩
            clear n0 q1 q2 q3 q4 hq9 hw' ck dk o2 p2
            go_wp2_with fail
            go_roundg (nq - (j + 1))
            case measure => go_light; omega
            case rel => go_light; exact ⟨j + 1, by go_num, by omega, HY9⟩
          · obtain rfl : j = nq := by omega
            have hge2 : ¬ (j : Int) < (j : Int) := by omega
            have hjj : ((j : Int) == (j : Int)) = true := by simp
            go_wp2_with fail
            go_ret
            exact ⟨rfl, HY.out.1.q⟩
      · have CP : Hid (∀ (w : World) (aa : Option Addr) (cc : Nat), Calls Try.prog 8 #[.agg #[.int .i64 pw, .int .i64 ph, .slice aa i cc], .int .i64 kind, .int .i64 W, .int .i64 H] w fun e w' => e = .returned (.tuple #[.agg #[.int .i64 0, .int .i64 0, .slice none 0 0], .int .i64 (plnE pw ph i kind W H)]) ∧ Q w w') := fun w aa cc => plane_bad pw ph aa i cc kind W H ml hE w
        generalize plnE pw ph i kind W H = E at *
        have hE0 : (E != 0) = true := by simpa using hE
        have hE1 : (E == E) = true := by simp
        clear hE
        go_wp2_with fail
        refine (CP.out _ _ _).mono ?_
        rintro e w5 ⟨rfl, q5⟩
        have HX5 : Hid (Ris W0 w5 W0.heap.size g1 g2 pw ph (.slice ad i c) i S O a1 a2 c1 c2 i) := HX.out.next q5
        have hx6 := HX5.out.next ((Q.refl w5).cells #[.int .i64 0, .int .i64 0, .slice none 0 0] 24)
        have m0 := hx6.hi.c0
        have m1 := hx6.hi.c1
        have m2 := hx6.hi.c2
        have HX6 : Hid (Q W0 (w5.alloc (.cells #[.int .i64 0, .int .i64 0, .slice none 0 0] 24))) := hx6.p.q
        clear q5 l0 l1 l2 hx6
        go_wp2_with fail
        refine (CP.out _ _ _).mono ?_
        rintro e w7 ⟨rfl, q7⟩
        have HQ7 : Hid (Q W0 w7) := HX6.out.trans q7
        clear q7 m0 m1 m2
        go_wp2_with fail
        go_ret
        first
          | exact ⟨rfl, HQ7.out.cells _ _⟩
          | exact ⟨rfl, (((HQ7.out.cells _ _).set HQ7.out.1.size _).set HQ7.out.1.size _).set HQ7.out.1.size _⟩
end Go.Proofs.Ytcolhgngiflkhaa
