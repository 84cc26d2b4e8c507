/- The statement ScaleSame: its walk. -/
import Derived.Test.YtdbbpmadkhedlaaG41ff8f43
import Derived.Test.YtdbbpmadkhedlaaG1a817621
namespace Go.Proofs.Ytdbbpmadkhedlaa
open Go.RowKit
set_option linter.unusedVariables false
set_option linter.unusedSimpArgs false

theorem ix_facts {yn WW ym xn ix mn : Nat} (h1 : yn * WW = ym) (h2 : ym + xn = ix) (h3 : ix < mn) (h4 : mn ≤ 65536) : (yn : Int) * (WW : Int) = (ym : Int) ∧ wrap64 (wrap64 (ym : Int) + (xn : Int)) = (ix : Int) ∧ (ix : Int) < (mn : Int) := by
  refine ⟨by rw [← Int.natCast_mul, h1], ?_, by omega⟩
  have e : wrap64 (ym : Int) = (ym : Int) := Go.IntWalk.wrap64_in _ (by omega)
  rw [e, Go.IntWalk.wrap64_in _ (by omega)]
  omega
theorem rem_side (X : Int) (W : Nat) (h : 1 ≤ W) : ∃ (t : Int) (x : Nat), Int.tmod X (W : Int) = t ∧ -(W : Int) < t ∧ t < (W : Int) ∧ Int.tmod (t + (W : Int)) (W : Int) = (x : Int) ∧ x < W := by
  have h1 := tmod_mod X W (by omega)
  obtain ⟨t, ht⟩ : ∃ t, Int.tmod X (W : Int) = t := ⟨_, rfl⟩
  rw [ht] at h1
  have h2 := tmod_mod (t + (W : Int)) W (by omega)
  have h3 : 0 ≤ Int.tmod (t + (W : Int)) (W : Int) := Int.tmod_nonneg _ (by omega)
  exact ⟨t, (Int.tmod (t + (W : Int)) (W : Int)).toNat, ht, by omega, by omega, by omega, by omega⟩
set_option maxHeartbeats 8000000 in
set_option maxRecDepth 100000 in
theorem ssame_walk (W0 : World) (pw ph kind W H X Y : Int) (s : Nat) (sv : Value) (S : List Nat) (us : USl W0 sv S) (hSb : ∀ i, S.getD i 0 < 4294967296) (hml : S.length ≤ 9223372036854775807) (hs : s < 4294967296) :
    Calls Try.prog 4 #[.agg #[.int .i64 pw, .int .i64 ph, sv], .int .i64 kind, .int .i64 W, .int .i64 H, .int .i64 X, .int .i64 Y, .int .u32 (s : Int)] W0 fun e w' => e = .returned (.bool true) ∧ Q W0 w' := by
  obtain ⟨ad, c, rfl⟩ := us.form
  obtain ⟨n, hn⟩ : ∃ n, S.length = n := ⟨_, rfl⟩
  rw [hn] at us hml
  rw [hn]
  obtain ⟨w1, hw1⟩ : ∃ w1, W0.alloc (.cells #[.int .i64 pw, .int .i64 ph, .slice ad n c] 33) = w1 := ⟨_, rfl⟩
  have q1 : Q W0 w1 := by rw [← hw1]; exact (Q.refl W0).cells _ _
  have p0 : w1.cell? ⟨W0.heap.size, 0, none⟩ = some (.int .i64 pw) := by rw [← hw1]; simp [go_sem]
  have p1 : w1.cell? ⟨W0.heap.size, 1, none⟩ = some (.int .i64 ph) := by rw [← hw1]; simp [go_sem]
  have p2 : w1.cell? ⟨W0.heap.size, 2, none⟩ = some (.slice ad n c) := by rw [← hw1]; simp [go_sem]
  obtain ⟨bp, hbp⟩ : ∃ bp, W0.heap.size = bp := ⟨_, rfl⟩
  rw [hbp] at p0 p1 p2
  have HK : Hid _ := fun x => known10_any x
  have HM : Hid _ := fun x => smallp_any pw ph ad n c W H x
  have HU : Hid (USl W0 (.slice ad n c) S ∧ S.length = n ∧ (∀ i, S.getD i 0 < 4294967296) ∧ n ≤ 9223372036854775807 ∧ s < 4294967296) := ⟨us, hn, hSb, hml, hs⟩
  have HQ1 : Hid (Q W0 w1) := q1
  have HS3 : Hid (smlP pw ph n W H = true → (n : Int) ≤ 3000) := fun h => by unfold smlP at h; exact (of_decide_eq_true h).1.1
  obtain ⟨sb, hsb⟩ : ∃ sb, smlP pw ph n W H = sb := ⟨_, rfl⟩
  rw [hsb] at HM HS3
  clear us hn hSb hml q1 hs hsb
  go_enter Try.func4, Try.ntmps4
  go_wp2_with fail
  clear hw1 hbp
  refine Calls.mono (HK.out _) ?_
  rintro e w2 ⟨rfl, q2⟩
  have p0 := q2.cell p0
  have p1 := q2.cell p1
  have p2 := q2.cell p2
  have HQ2 : Hid (Q W0 w2) := HQ1.out.trans q2
  clear q2
  go_wp2_with fail
  refine Calls.mono (HM.out _) ?_
  rintro e w3 ⟨rfl, q3⟩
  have p0 := q3.cell p0
  have p1 := q3.cell p1
  have p2 := q3.cell p2
  have HQ3 : Hid (Q W0 w3) := HQ2.out.trans q3
  clear q3
  cases sb
  · go_wp2_with fail
    go_ret
    exact ⟨rfl, HQ3.out⟩
  go_wp2_with fail
  by_cases hE : plnE pw ph n kind W H = 0
  rotate_left
  · have CB := plane_bad pw ph ad n c kind W H HU.out.2.2.2.1 hE w3
    obtain ⟨E, hEe⟩ : ∃ E, plnE pw ph n kind W H = E := ⟨_, rfl⟩
    rw [hEe] at CB hE
    have hEn : (E != 0) = true := by simp [hE]
    clear hEe hE
    refine Calls.mono CB ?_
    rintro e xa ⟨rfl, ra⟩
    obtain ⟨za, hza⟩ : ∃ za, xa.alloc (.cells #[.int .i64 0, .int .i64 0, .slice none 0 0] 33) = za := ⟨_, rfl⟩
    have HBa : Hid (Q W0 za) := (HQ3.out.trans ra).trans (by rw [← hza]; exact (Q.refl xa).cells _ _)
    have m0 : za.cell? ⟨xa.heap.size, 0, none⟩ = some (.int .i64 0) := by rw [← hza]; simp [go_sem]
    have m1 : za.cell? ⟨xa.heap.size, 1, none⟩ = some (.int .i64 0) := by rw [← hza]; simp [go_sem]
    have m2 : za.cell? ⟨xa.heap.size, 2, none⟩ = some (.slice none 0 0) := by rw [← hza]; simp [go_sem]
    have mf0 : za.frozen? ⟨xa.heap.size, 0, none⟩ = false := by rw [← hza]; simp [go_sem]
    have mf1 : za.frozen? ⟨xa.heap.size, 1, none⟩ = false := by rw [← hza]; simp [go_sem]
    have mf2 : za.frozen? ⟨xa.heap.size, 2, none⟩ = false := by rw [← hza]; simp [go_sem]
    have ms0 := setcell_id m0
    have ms1 := setcell_id m1
    have ms2 := setcell_id m2
    clear ra CB
    go_wp2_with fail
    go_ret
    exact ⟨rfl, HBa.out⟩
  obtain ⟨pa, pb, WW, HH, rfl, rfl, hsz, hnn, rfl, rfl, hwh, hX0, hY0⟩ := plnE_full hE
  obtain ⟨gs, os, cs, hv, hcs, hUI⟩ := HU.out.1.some (by rw [HU.out.2.1, hnn]; exact hsz.pos)
  rw [HU.out.2.1] at hv hcs
  injection hv with hv1 _ hv2
  subst hv1 hv2
  have hE2 : plnE pa pb S.length kind WW HH = 0 := by rw [HU.out.2.1]; exact hE
  have hE3 : plnE pa pb S.length kind pa pb = 0 := by
    unfold plnE
    rw [HU.out.2.1]
    have hc : chk pa pb n = 0 := by unfold plnE at hE; split at hE; assumption; contradiction
    rw [if_pos hc, if_pos (sizeB_true.2 hsz.b)]
    have own : ∀ F T : Nat, 1 ≤ F → F ≤ 1024 → tapE kind F T 0 = 0 → tapE kind F F 0 = 0 := fun F T f1 f2 h => by
      obtain ⟨hk, _⟩ := tapE_ok h
      unfold tapE
      rw [if_pos (by omega), if_pos (by omega), if_pos (by omega)]
    rw [if_pos (own _ _ hsz.a1 hsz.a2 hX0)]
    exact own _ _ hsz.b1 hsz.b2 hY0
  have HP : Hid (∀ x, Q W0 x → Calls Try.prog 11 #[.agg #[.int .i64 (pa : Int), .int .i64 (pb : Int), .slice (some ⟨gs, os, none⟩) n c], .int .i64 kind, .int .i64 (WW : Int), .int .i64 (HH : Int)] x fun e w' => ∃ g, e = .returned (.tuple #[.agg #[.int .i64 (WW : Int), .int .i64 (HH : Int), .slice (some ⟨g, 0, none⟩) (WW * HH) (WW * HH)], .int .i64 0]) ∧ URow w' g (tabN (WW * HH) fun i => whlV kind pa pb WW HH S (i % WW) (i / WW)) ∧ x.heap.size ≤ g ∧ Q x w') := fun x q => plane_good kind pa pb WW HH _ S x (HU.out.1.next q) (HU.out.2.1.trans hnn) HU.out.2.2.1 hE2 hsz hwh
  have HPo : Hid (∀ x, Q W0 x → Calls Try.prog 11 #[.agg #[.int .i64 (pa : Int), .int .i64 (pb : Int), .slice (some ⟨gs, os, none⟩) n c], .int .i64 kind, .int .i64 (pa : Int), .int .i64 (pb : Int)] x fun e w' => ∃ g, e = .returned (.tuple #[.agg #[.int .i64 (pa : Int), .int .i64 (pb : Int), .slice (some ⟨g, 0, none⟩) n n], .int .i64 0]) ∧ URow w' g (tabN n fun i => mdN (S.getD i 0)) ∧ x.heap.size ≤ g ∧ Q x w') := fun x q => by
    have h := plane_good kind pa pb pa pb _ S x (HU.out.1.next q) (HU.out.2.1.trans hnn) HU.out.2.2.1 hE3 hsz hsz
    rw [← hnn] at h
    have e : tabN n (fun i => whlV kind pa pb pa pb S (i % pa) (i / pa)) = tabN n fun i => mdN (S.getD i 0) := by
      unfold tabN
      apply List.map_congr_left
      intro i hi
      have hi : i < pa * pb := by rw [← hnn]; simpa using hi
      obtain ⟨_, hx, hy⟩ := row_lt hi
      obtain ⟨_, t1, t2⟩ := plnE_ok hE3
      rw [whl_own (tapE_at t1 (k := i % pa) (by omega)) (tapE_at t2 (k := i / pa) (by omega)) hy HU.out.2.2.1, Nat.div_add_mod' i pa]
    rw [e] at h
    exact h
  have hn1 : 1 ≤ n := by rw [hnn]; exact hsz.pos
  have hn2 : n ≤ 65536 := by rw [hnn]; exact hsz.ab
  have HG : Hid ((∀ x, Q W0 x → UIs x gs os S) ∧ gs < W0.heap.size) := ⟨fun x q => hUI.next q, World.block_lt_of_cell? _ _ (hUI 0 (by rw [HU.out.2.1]; omega))⟩
  have HZ : Hid (n ≤ c ∧ n = pa * pb ∧ Size pa pb ∧ Size WW HH ∧ tapE kind pa WW 0 = 0 ∧ tapE kind pb HH 0 = 0 ∧ plnE pa pb S.length kind WW HH = 0) := ⟨hcs, hnn, hsz, hwh, hX0, hY0, hE2⟩
  obtain ⟨mn, hmn⟩ : ∃ mn, WW * HH = mn := ⟨_, rfl⟩
  have HMN : Hid (WW * HH = mn ∧ mn ≤ 65536) := ⟨hmn, by rw [← hmn]; exact hwh.ab⟩
  rw [hmn] at HP
  obtain ⟨VW, hVW⟩ : ∃ VW : Nat → Nat, (fun i => whlV kind pa pb WW HH S (i % WW) (i / WW)) = VW := ⟨_, rfl⟩
  rw [hVW] at HP
  have HVW : Hid ((fun i => whlV kind pa pb WW HH S (i % WW) (i / WW)) = VW) := hVW
  clear hE hE2 hE3 hnn hsz hwh hX0 hY0 hcs hUI hmn hVW
  refine Calls.mono (HP.out _ HQ3.out) ?_
  rintro e xa ⟨ga, rfl, hra, hga, ra⟩
  obtain ⟨za, hza⟩ : ∃ za, xa.alloc (.cells #[.int .i64 (WW : Int), .int .i64 (HH : Int), .slice (some ⟨ga, 0, none⟩) mn mn] 33) = za := ⟨_, rfl⟩
  have hqa : Q xa za := by rw [← hza]; exact (Q.refl xa).cells _ _
  obtain ⟨Ba, hBa⟩ : ∃ Ba, xa.heap.size = Ba := ⟨_, rfl⟩
  have HLa : Hid (URow za ga (tabN mn VW) ∧ za.cell? ⟨Ba, 2, none⟩ = some (.slice (some ⟨ga, 0, none⟩) mn mn)) := ⟨hra.next hqa, by rw [← hBa, ← hza]; simp [go_sem]⟩
  have HNa : Hid (Q w3 za) := ra.trans hqa
  clear hra hga ra hqa
  have p0 := HNa.out.cell p0
  have p1 := HNa.out.cell p1
  have p2 := HNa.out.cell p2
  have HWa : Hid (Q W0 za) := HQ3.out.trans HNa.out
  go_wp2_with fail
  clear hza hBa
  refine Calls.mono (HPo.out _ HWa.out) ?_
  rintro e xb ⟨gb, rfl, hrb, hgb, rb⟩
  obtain ⟨zb, hzb⟩ : ∃ zb, xb.alloc (.cells #[.int .i64 (pa : Int), .int .i64 (pb : Int), .slice (some ⟨gb, 0, none⟩) n n] 33) = zb := ⟨_, rfl⟩
  have hqb : Q xb zb := by rw [← hzb]; exact (Q.refl xb).cells _ _
  obtain ⟨Bb, hBb⟩ : ∃ Bb, xb.heap.size = Bb := ⟨_, rfl⟩
  have b0 : zb.cell? ⟨xb.heap.size, 0, none⟩ = some (.int .i64 (pa : Int)) := by rw [← hzb]; simp [go_sem]
  have b1 : zb.cell? ⟨xb.heap.size, 1, none⟩ = some (.int .i64 (pb : Int)) := by rw [← hzb]; simp [go_sem]
  have b2 : zb.cell? ⟨xb.heap.size, 2, none⟩ = some (.slice (some ⟨gb, 0, none⟩) n n) := by rw [← hzb]; simp [go_sem]
  rw [hBb] at b0 b1 b2
  have HNb : Hid (Q za zb) := rb.trans hqb
  have HLb : Hid (URow zb gb (tabN n fun i => mdN (S.getD i 0)) ∧ zb.cell? ⟨Bb, 2, none⟩ = some (.slice (some ⟨gb, 0, none⟩) n n)) := ⟨hrb.next hqb, b2⟩
  clear hrb hgb rb hqb
  have p0 := HNb.out.cell p0
  have p1 := HNb.out.cell p1
  have p2 := HNb.out.cell p2
  have HPZ : Hid (zb.cell? ⟨bp, 0, none⟩ = some (.int .i64 (pa : Int)) ∧ zb.cell? ⟨bp, 1, none⟩ = some (.int .i64 (pb : Int)) ∧ zb.cell? ⟨bp, 2, none⟩ = some (.slice (some ⟨gs, os, none⟩) n c)) := ⟨p0, p1, p2⟩
  have HWb : Hid (Q W0 zb) := HWa.out.trans HNb.out
  go_wp2_with fail
  clear hzb hBb b0 b1 b2 p0 p1 p2
  go_loopg [19] n (fun mm s19 wr => ∃ i : Nat, s19 = .int .i64 (i : Int) ∧ i + mm = n ∧ wr = zb)
  case atStart => exact ⟨0, rfl, by omega, rfl⟩
  case round =>
    obtain ⟨i, rfl, hin, rfl⟩ := hrel
    have p2 := HPZ.out.2.2
    by_cases hlt : i < n
    · have hlt' : (i : Int) < (n : Int) := by omega
      have hlim : i ≤ 65536 := by omega
      have hcl := (HG.out.1 _ HWb.out) i (by rw [HU.out.2.1]; exact hlt)
      have hsb := HU.out.2.2.1 i
      have hcb := HLb.out.1.uis i (by simp [tabN]; exact hlt)
      rw [tabN_getD hlt, Nat.zero_add] at hcb
      have b2 := HLb.out.2
      obtain ⟨s1, hs1⟩ : ∃ s1, S.getD i 0 = s1 := ⟨_, rfl⟩
      rw [hs1] at hcl hsb hcb
      have hand := and_rung hsb
      have hnan := nanN_rung s1
      unfold mdN at hcb
      clear hs1
      by_cases hr : 2139095040 < rung32 s1
      · have hr' : (2139095040 : Int) < ((rung32 s1 : Nat) : Int) := by omega
        rw [hnan, decide_eq_true hr] at hcb
        simp only [if_true] at hcb
        generalize rung32 s1 = r at *
        clear hnan hr
        go_wp2_with fail
        go_roundg (n - (i + 1))
        case measure => go_light; omega
        case rel => go_light; exact ⟨i + 1, by go_num, by omega, rfl⟩
      · have hr' : ¬ (2139095040 : Int) < ((rung32 s1 : Nat) : Int) := by omega
        rw [hnan, decide_eq_false hr] at hcb
        simp only [Bool.false_eq_true, if_false] at hcb
        generalize rung32 s1 = r at *
        have hne : ((s1 : Int) != (s1 : Int)) = false := by simp
        clear hnan hr
        go_wp2_with fail
        go_roundg (n - (i + 1))
        case measure => go_light; omega
        case rel => go_light; exact ⟨i + 1, by go_num, by omega, rfl⟩
    · obtain rfl : n = i := by omega
      have hge : ¬ (n : Int) < (n : Int) := by omega
      have p2 := HPZ.out.2.2
      go_wp2_with fail
      obtain ⟨t, xn, ht, ht1, ht2, hx, hx2⟩ := rem_side X WW HZ.out.2.2.2.1.a1
      obtain ⟨u, yn, hu, hu1, hu2, hy, hy2⟩ := rem_side Y HH HZ.out.2.2.2.1.b1
      have hw0 : ¬ WW = 0 := by have := HZ.out.2.2.2.1.a1; omega
      have hh0 : ¬ HH = 0 := by have := HZ.out.2.2.2.1.b1; omega
      have hwa : wrap64 (t + (WW : Int)) = t + (WW : Int) := Go.IntWalk.wrap64_in _ (by have := HZ.out.2.2.2.1.a2; omega)
      have hwb : wrap64 (u + (HH : Int)) = u + (HH : Int) := Go.IntWalk.wrap64_in _ (by have := HZ.out.2.2.2.1.b2; omega)
      have hwt : wrap64 t = t := Go.IntWalk.wrap64_in _ (by have := HZ.out.2.2.2.1.a2; omega)
      have hwu : wrap64 u = u := Go.IntWalk.wrap64_in _ (by have := HZ.out.2.2.2.1.b2; omega)
      have n0 := qw_some wr
      refine wp_region_quiet_Q (by kernel_rfl) (by kernel_rfl) ?_
      repeat (first | go_big_quiet_step (fail) | quiet_step (fail))
      refine wpQuiet_nil ?_
      intro w4 hw'
      have hq4 := qw_out hw'
      clear hw' n0
      have HNc : Hid (Q wr w4) := hq4
      have HXY : Hid (xn < WW ∧ yn < HH) := ⟨hx2, hy2⟩
      have hX : tapE kind pa WW xn = 0 := tapE_at HZ.out.2.2.2.2.1 (by omega)
      have hY : tapE kind pb HH yn = 0 := tapE_at HZ.out.2.2.2.2.2.1 (by omega)
      have HXt : Hid (tapE kind pa WW xn = 0 ∧ tapE kind pb HH yn = 0) := ⟨hX, hY⟩
      have hN1 := fun x => need_good kind pa WW xn 1 ((xn : Int) + 1) x (by omega) HZ.out.2.2.2.2.1 (by omega) (by omega) HZ.out.2.2.1.a1 HZ.out.2.2.1.a2 HZ.out.2.2.2.1.a2
      have hN2 := fun x => need_good kind pb HH yn 1 ((yn : Int) + 1) x (by omega) HZ.out.2.2.2.2.2.1 (by omega) (by omega) HZ.out.2.2.1.b1 HZ.out.2.2.1.b2 HZ.out.2.2.2.1.b2
      have HN1 : Hid (∀ x, Calls Try.prog 12 #[.int .i64 kind, .int .i64 (pa : Int), .int .i64 (WW : Int), .int .i64 (xn : Int), .int .i64 ((xn : Int) + 1)] x fun e w' => e = .returned (.tuple #[.int .i64 (fstN kind pa WW xn), .int .i64 (endN kind pa WW xn), .int .i64 0]) ∧ Q x w') := hN1
      have HN2 : Hid (∀ x, Calls Try.prog 12 #[.int .i64 kind, .int .i64 (pb : Int), .int .i64 (HH : Int), .int .i64 (yn : Int), .int .i64 ((yn : Int) + 1)] x fun e w' => e = .returned (.tuple #[.int .i64 (fstN kind pb HH yn), .int .i64 (endN kind pb HH yn), .int .i64 0]) ∧ Q x w') := hN2
      obtain ⟨cB, hcB⟩ : ∃ cB : Nat → Bool, (fun j : Nat => decide (((j % pa : Nat) : Int) < fstN kind pa WW xn ∨ endN kind pa WW xn ≤ ((j % pa : Nat) : Int) ∨ ((j / pa : Nat) : Int) < fstN kind pb HH yn ∨ endN kind pb HH yn ≤ ((j / pa : Nat) : Int))) = cB := ⟨_, rfl⟩
      have hcB1 : ∀ j, cB j = true ↔ (((j % pa : Nat) : Int) < fstN kind pa WW xn ∨ endN kind pa WW xn ≤ ((j % pa : Nat) : Int) ∨ ((j / pa : Nat) : Int) < fstN kind pb HH yn ∨ endN kind pb HH yn ≤ ((j / pa : Nat) : Int)) := fun j => by rw [← hcB]; simp only [decide_eq_true_eq]
      have HSP : Hid (∀ S' s', S' = splL cB s' S → whlV kind pa pb WW HH S' xn yn = whlV kind pa pb WW HH S xn yn) := fun S' s' e => by rw [e]; exact spl_whl hX hY (HU.out.2.1.trans HZ.out.2.1) (fun j hj => (hcB1 j).1 hj)
      generalize fstN kind pa WW xn = a1 at HN1 hcB1
      generalize endN kind pa WW xn = a2 at HN1 hcB1
      generalize fstN kind pb HH yn = a3 at HN2 hcB1
      generalize endN kind pb HH yn = a4 at HN2 hcB1
      have HCB : Hid (∀ j, cB j = true ↔ (((j % pa : Nat) : Int) < a1 ∨ a2 ≤ ((j % pa : Nat) : Int) ∨ ((j / pa : Nat) : Int) < a3 ∨ a4 ≤ ((j / pa : Nat) : Int))) := hcB1
      have hwx : (WW : Int) * (HH : Int) = (mn : Int) := by rw [← Int.natCast_mul, HMN.out.1]
      have hmb : (mn : Int) ≤ 65536 := by have := HMN.out.2; omega
      have a2c := HNb.out.cell HLa.out.2
      have a2c := HNc.out.cell a2c
      have p0 := HNc.out.cell HPZ.out.1
      have p1 := HNc.out.cell HPZ.out.2.1
      have p2 := HNc.out.cell HPZ.out.2.2
      have hxb : (xn : Int) < 1024 := by have := HZ.out.2.2.2.1.a2; omega
      have hyb : (yn : Int) < 1024 := by have := HZ.out.2.2.2.1.b2; omega
      clear hq4 hN1 hN2 hcB hcB1 hX hY ht ht1 ht2 hx hx2 hu hu1 hu2 hy hy2 hw0 hh0 hwa hwb hwt hwu
      go_wp2_with fail
      refine Calls.mono (HN1.out _) ?_
      rintro e w5 ⟨rfl, q5⟩
      have p0 := q5.cell p0
      have p1 := q5.cell p1
      have p2 := q5.cell p2
      have HNd : Hid (Q wr w5) := HNc.out.trans q5
      clear q5 a2c
      go_wp2_with fail
      refine Calls.mono (HN2.out _) ?_
      rintro e w6 ⟨rfl, q6⟩
      have p0 := q6.cell p0
      have p1 := q6.cell p1
      have p2 := q6.cell p2
      have HNe : Hid (Q wr w6) := HNd.out.trans q6
      clear q6
      go_wp2_with fail
      refine Calls.mono (hcopy_some w6 (pa : Int) (pb : Int) gs os n c S HU.out.2.1 (HG.out.1 _ (HWb.out.trans HNe.out)) (by omega) (by omega)) ?_
      rintro e w7 ⟨v7, rfl, go, cc, rfl, hcc, hgo, hown⟩
      obtain ⟨w8, hw8⟩ : ∃ w8, w7.alloc (.cells #[.int .i64 (pa : Int), .int .i64 (pb : Int), .slice (some ⟨go, 0, none⟩) n cc] 33) = w8 := ⟨_, rfl⟩
      obtain ⟨Bo, hBo⟩ : ∃ Bo, w7.heap.size = Bo := ⟨_, rfl⟩
      have q78 : Q w7 w8 := by rw [← hw8]; exact (Q.refl w7).cells _ _
      have HO0 : Hid (Spl w6 w8 Bo go pa pb n cc (splK cB s S 0)) := by
        refine ⟨hown.q.trans q78, by rw [← hw8, ← hBo]; simp [go_sem], by rw [← hw8, ← hBo]; simp [go_sem], by rw [← hw8, ← hBo]; simp [go_sem], ⟨fun i hi => ?_, fun j => ?_⟩, by omega, hown.new⟩
        · have := q78.cell (hown.cells i (by rw [HU.out.2.1]; exact hi))
          rw [Nat.zero_add] at this
          rw [this]
          unfold splK
          rw [if_neg (by omega)]
        · rw [q78.2]; exact hown.free j
      have HCC : Hid (n ≤ cc) := hcc
      have HPE : Hid (w6.cell? ⟨bp, 0, none⟩ = some (.int .i64 (pa : Int)) ∧ w6.cell? ⟨bp, 1, none⟩ = some (.int .i64 (pb : Int)) ∧ w6.cell? ⟨bp, 2, none⟩ = some (.slice (some ⟨gs, os, none⟩) n c)) := ⟨p0, p1, p2⟩
      clear q78 hown hcc hgo p0 p1 p2
      go_wp2_with fail
      clear hw8 hBo
      go_loopg [28] n (fun mm s28 wx => ∃ i : Nat, s28 = .int .i64 (i : Int) ∧ i + mm = n ∧ Hid (Spl w6 wx Bo go pa pb n cc (splK cB s S i)))
      case atStart => exact ⟨0, rfl, by omega, HO0⟩
      case round =>
        clear HO0
        obtain ⟨i, rfl, hin, HT⟩ := hrel
        have p2 := HT.out.q.cell HPE.out.2.2
        by_cases hlt : i < n
        · have hlt' : (i : Int) < (n : Int) := by omega
          have hlim : i ≤ 65536 := by omega
          have p0 := HT.out.q.cell HPE.out.1
          have pa1 : ¬ pa = 0 := by have := HZ.out.2.2.1.a1; omega
          obtain ⟨um, hum⟩ : ∃ um, i % pa = um := ⟨_, rfl⟩
          obtain ⟨vm, hvm⟩ : ∃ vm, i / pa = vm := ⟨_, rfl⟩
          have hm1 : Int.tmod (i : Int) (pa : Int) = (um : Int) := by rw [← hum, Int.tmod_eq_emod_of_nonneg (by omega)]; rfl
          have hm2 : Int.tdiv (i : Int) (pa : Int) = (vm : Int) := by rw [← hvm, Int.tdiv_eq_ediv_of_nonneg (by omega)]; rfl
          have hcb := HCB.out i
          rw [hum, hvm] at hcb
          have hmw : wrap64 (vm : Int) = (vm : Int) := Go.IntWalk.wrap64_in _ (by have : vm ≤ i := by rw [← hvm]; exact Nat.div_le_self _ _
                                                                                  omega)
          clear hum hvm
          go_wp2_with fail
          have n0 := qw_some wr
          have f0 := qw_cell p0
          refine wp_region_quiet_Q (by kernel_rfl) (by kernel_rfl) ?_
          repeat (first | go_big_quiet_step (fail) | quiet_step (fail))
          refine wpQuiet_nil ?_
          intro w9 hw'
          have hq9 := qw_out hw'
          have HT9 : Hid (Spl w6 w9 Bo go pa pb n cc (splK cB s S i)) := HT.out.next hq9
          clear hw' n0 f0 p0 p2 hq9 HT hm1 hm2
          by_cases h1 : (um : Int) < a1
          · have HCT : Hid (cB i = true) := hcb.2 (Or.inl h1)
            clear hcb
            have o2 := HT9.out.c2
            have ov := HT9.out.v.cell i hlt
            have of := HT9.out.v.free i
            have HT10 : Hid (Spl w6 (w9.setCell ⟨go, i, none⟩ (.int .u32 (s : Int))) Bo go pa pb n cc (splK cB s S (i + 1))) := HT9.out.put hlt HCT.out
            clear HT9
            go_wp2_with fail
            generalize w9.setCell ⟨go, i, none⟩ (.int .u32 (s : Int)) = w10 at HT10 ⊢
            go_roundg (n - (i + 1))
            case measure => go_light; omega
            case rel => go_light; exact ⟨i + 1, by go_num, by omega, HT10⟩
          by_cases h2 : a2 ≤ (um : Int)
          · have HCT : Hid (cB i = true) := hcb.2 (Or.inr (Or.inl h2))
            clear hcb
            have o2 := HT9.out.c2
            have ov := HT9.out.v.cell i hlt
            have of := HT9.out.v.free i
            have HT10 : Hid (Spl w6 (w9.setCell ⟨go, i, none⟩ (.int .u32 (s : Int))) Bo go pa pb n cc (splK cB s S (i + 1))) := HT9.out.put hlt HCT.out
            clear HT9
            go_wp2_with fail
            generalize w9.setCell ⟨go, i, none⟩ (.int .u32 (s : Int)) = w10 at HT10 ⊢
            go_roundg (n - (i + 1))
            case measure => go_light; omega
            case rel => go_light; exact ⟨i + 1, by go_num, by omega, HT10⟩
          by_cases h3 : (vm : Int) < a3
          · have HCT : Hid (cB i = true) := hcb.2 (Or.inr (Or.inr (Or.inl h3)))
            clear hcb
            have o2 := HT9.out.c2
            have ov := HT9.out.v.cell i hlt
            have of := HT9.out.v.free i
            have HT10 : Hid (Spl w6 (w9.setCell ⟨go, i, none⟩ (.int .u32 (s : Int))) Bo go pa pb n cc (splK cB s S (i + 1))) := HT9.out.put hlt HCT.out
            clear HT9
            go_wp2_with fail
            generalize w9.setCell ⟨go, i, none⟩ (.int .u32 (s : Int)) = w10 at HT10 ⊢
            go_roundg (n - (i + 1))
            case measure => go_light; omega
            case rel => go_light; exact ⟨i + 1, by go_num, by omega, HT10⟩
          by_cases h4 : a4 ≤ (vm : Int)
          · have HCT : Hid (cB i = true) := hcb.2 (Or.inr (Or.inr (Or.inr h4)))
            clear hcb
            have o2 := HT9.out.c2
            have ov := HT9.out.v.cell i hlt
            have of := HT9.out.v.free i
            have HT10 : Hid (Spl w6 (w9.setCell ⟨go, i, none⟩ (.int .u32 (s : Int))) Bo go pa pb n cc (splK cB s S (i + 1))) := HT9.out.put hlt HCT.out
            clear HT9
            go_wp2_with fail
            generalize w9.setCell ⟨go, i, none⟩ (.int .u32 (s : Int)) = w10 at HT10 ⊢
            go_roundg (n - (i + 1))
            case measure => go_light; omega
            case rel => go_light; exact ⟨i + 1, by go_num, by omega, HT10⟩
          have HCF : Hid (cB i = false) := by
            cases hh : cB i
            · rfl
            · have := hcb.1 hh; omega
          clear hcb
          go_wp2_with fail
          go_roundg (n - (i + 1))
          case measure => go_light; omega
          case rel => go_light; exact ⟨i + 1, by go_num, by omega, by show Spl _ _ _ _ _ _ _ _ _; rw [splK_keep HCF.out]; exact HT9.out⟩
        · obtain rfl : n = i := by omega
          have hge : ¬ (n : Int) < (n : Int) := by omega
          have p2 := HT.out.q.cell HPE.out.2.2
          have o0 := HT.out.c0
          have o1 := HT.out.c1
          have o2 := HT.out.c2
          have hus : USl wr (.slice (some ⟨go, 0, none⟩) n cc) (splL cB s S) := by
            have := (HT.out.uis HU.out.2.1).usl (cap := cc) (by rw [splL_len, HU.out.2.1]; exact HCC.out)
            rw [splL_len, HU.out.2.1] at this
            exact this
          obtain ⟨VV, hVV⟩ : ∃ VV, whlV kind pa pb WW HH S xn yn = VV := ⟨_, rfl⟩
          have HPt : Hid (Calls Try.prog 14 #[.agg #[.int .i64 (pa : Int), .int .i64 (pb : Int), .slice (some ⟨go, 0, none⟩) n cc], .int .i64 kind, .int .i64 (WW : Int), .int .i64 (HH : Int), .agg #[.int .i64 (xn : Int), .int .i64 (yn : Int), .int .i64 ((xn : Int) + 1), .int .i64 ((yn : Int) + 1)]] wr fun e w' => ∃ g, e = .returned (.tuple #[.agg #[.int .i64 1, .int .i64 1, .slice (some ⟨g, 0, none⟩) 1 1], .int .i64 0]) ∧ w'.cell? ⟨g, 0, none⟩ = some (.int .u32 (VV : Int)) ∧ Q wr w') := by
            refine (part_good kind pa pb WW HH xn yn 1 1 ((xn : Int) + 1) ((yn : Int) + 1) _ (splL cB s S) wr hus (by rw [splL_len, HU.out.2.1]; exact HZ.out.2.1) (splL_lt HU.out.2.2.2.2 HU.out.2.2.1) (by rw [splL_len]; exact HZ.out.2.2.2.2.2.2) HZ.out.2.2.1 HZ.out.2.2.2.1 (by omega) (by omega) (by omega) (by omega) (by have := HXY.out.1; omega) (by have := HXY.out.2; omega)).mono ?_
            rintro e w' ⟨g, rfl, hr, hg, q⟩
            refine ⟨g, rfl, ?_, q⟩
            have := hr.cell 0 (whlV kind pa pb WW HH (splL cB s S) (xn + 0 % 1) (yn + 0 / 1)) (by simp [tabN])
            have e1 : whlV kind pa pb WW HH (splL cB s S) (xn + 0 % 1) (yn + 0 / 1) = VV := by rw [← hVV]; exact HSP.out _ s rfl
            rw [e1] at this
            exact this
          have HVV : Hid (whlV kind pa pb WW HH S xn yn = VV) := hVV
          have hxb : (xn : Int) < 1024 := by have := HZ.out.2.2.2.1.a2; have := HXY.out; omega
          have hyb : (yn : Int) < 1024 := by have := HZ.out.2.2.2.1.b2; have := HXY.out; omega
          clear hus hVV
          go_wp2_with fail
          clear o0 o1 o2 p2
          refine Calls.mono HPt.out ?_
          rintro e x1 ⟨gt, rfl, hct, qt⟩
          obtain ⟨z1, hz1⟩ : ∃ z1, x1.alloc (.cells #[.int .i64 1, .int .i64 1, .slice (some ⟨gt, 0, none⟩) 1 1] 33) = z1 := ⟨_, rfl⟩
          obtain ⟨Bt, hBt⟩ : ∃ Bt, x1.heap.size = Bt := ⟨_, rfl⟩
          have q1z : Q x1 z1 := by rw [← hz1]; exact (Q.refl x1).cells _ _
          have t2 : z1.cell? ⟨Bt, 2, none⟩ = some (.slice (some ⟨gt, 0, none⟩) 1 1) := by rw [← hBt, ← hz1]; simp [go_sem]
          have tc : z1.cell? ⟨gt, 0, none⟩ = some (.int .u32 (VV : Int)) := q1z.cell hct
          have HNz : Hid (Q w6 z1) := HT.out.q.trans (qt.trans q1z)
          have HWz : Hid (Q W0 z1) := HWb.out.trans (HNe.out.trans HNz.out)
          obtain ⟨ym, hym⟩ : ∃ ym, yn * WW = ym := ⟨_, rfl⟩
          obtain ⟨ix, hix⟩ : ∃ ix, ym + xn = ix := ⟨_, rfl⟩
          have HIX : Hid (yn * WW + xn = ix ∧ ix < mn) := by
            refine ⟨by rw [hym, hix], ?_⟩
            have h1 : yn * WW + xn < WW * HH := place_lt HXY.out.1 HXY.out.2
            rw [HMN.out.1] at h1
            omega
          have qza : Q za z1 := HNb.out.trans (HNe.out.trans HNz.out)
          have ac := qza.cell HLa.out.2
          have av : z1.cell? ⟨ga, ix, none⟩ = some (.int .u32 (VV : Int)) := by
            have h := (HLa.out.1.next qza).uis ix (by simp [tabN]; exact HIX.out.2)
            rw [tabN_getD HIX.out.2, Nat.zero_add, ← HVW.out] at h
            have e1 : ix % WW = xn := by rw [← HIX.out.1]; exact place_mod yn HXY.out.1
            have e2 : ix / WW = yn := by rw [← HIX.out.1]; exact place_div yn HXY.out.1
            simp only [e1, e2, HVV.out] at h
            exact h
          have HYM : Hid (yn * WW = ym ∧ ym + xn = ix) := ⟨hym, hix⟩
          clear qt q1z hct qza hym hix HPt HT
          have HTC : Hid (z1.cell? ⟨Bt, 2, none⟩ = some (.slice (some ⟨gt, 0, none⟩) 1 1) ∧ z1.cell? ⟨gt, 0, none⟩ = some (.int .u32 (VV : Int)) ∧ z1.cell? ⟨Ba, 2, none⟩ = some (.slice (some ⟨ga, 0, none⟩) mn mn) ∧ z1.cell? ⟨ga, ix, none⟩ = some (.int .u32 (VV : Int))) := ⟨t2, tc, ac, av⟩
          clear t2 tc ac av
          go_wp2_with fail
          clear hz1 hBt
          have t2 := HTC.out.1
          have tc := HTC.out.2.1
          have ac := HTC.out.2.2.1
          have av := HTC.out.2.2.2
          have HAR : Hid ((yn : Int) * (WW : Int) = (ym : Int) ∧ wrap64 (wrap64 (ym : Int) + (xn : Int)) = (ix : Int) ∧ (ix : Int) < (mn : Int)) := ix_facts HYM.out.1 HYM.out.2 HIX.out.2 HMN.out.2
          have hVne : ((VV : Int) != (VV : Int)) = false := by simp
          have har1 := HAR.out.1
          have har2 := HAR.out.2.1
          have har3 := HAR.out.2.2
          clear hwx hmb hxb hyb HTC
          have n0 := qw_some z1
          have f0 := qw_cell t2
          have f1 := qw_cell tc
          have f2 := qw_cell ac
          have f3 := qw_cell av
          refine wp_region_quiet_Q (by kernel_rfl) (by kernel_rfl) ?_
          repeat (first | go_big_quiet_step (fail) | quiet_step (fail))
          refine wpQuiet_nil ?_
          intro w11 hw'
          have HN11 : Hid (Q w6 w11) := HNz.out.trans (qw_out hw')
          have HQV : Hid (w11.cell? ⟨Ba, 2, none⟩ = some (.slice (some ⟨ga, 0, none⟩) mn mn) ∧ w11.cell? ⟨ga, ix, none⟩ = some (.int .u32 (VV : Int))) := ⟨(qw_out hw').cell ac, (qw_out hw').cell av⟩
          have HW11 : Hid (Q W0 w11) := HWz.out.trans (qw_out hw')
          clear hw' n0 f0 f1 f2 f3 t2 tc ac av har1 har2 har3 HNz HWz
          have HPF : Hid (w11.cell? ⟨bp, 0, none⟩ = some (.int .i64 (pa : Int)) ∧ w11.cell? ⟨bp, 1, none⟩ = some (.int .i64 (pb : Int)) ∧ w11.cell? ⟨bp, 2, none⟩ = some (.slice (some ⟨gs, os, none⟩) n c)) := ⟨HN11.out.cell HPE.out.1, HN11.out.cell HPE.out.2.1, HN11.out.cell HPE.out.2.2⟩
          obtain ⟨R, hR⟩ : ∃ R : Nat → List Nat, (fun v => rowL ((S.drop (v * pa)).take pa) kind WW) = R := ⟨_, rfl⟩
          have HRD : Hid ((fun v => rowL ((S.drop (v * pa)).take pa) kind WW) = R) := hR
          have HRw : Hid (∀ (v : Nat) (x : World), v < pb → Q W0 x → Calls Try.prog 15 #[.slice (some ⟨gs, os + v * pa, none⟩) pa (c - v * pa), .int .i64 kind, .int .i64 (WW : Int)] x fun e w' => ∃ b, e = .returned (.tuple #[.slice (some ⟨b, 0, none⟩) WW WW, .int .i64 0]) ∧ Own x w' b (R v)) := fun v x hv q => by
            have := row_all (HU.out.2.1.trans HZ.out.2.1) HU.out.2.1 HZ.out.1 hv HU.out.2.2.1 (HG.out.1 _ q) HZ.out.2.2.1.a1 HZ.out.2.2.1.a2 HZ.out.2.2.2.1.a1 HZ.out.2.2.2.1.a2 HZ.out.2.2.2.2.1
            rw [← hR]
            exact this
          have HRL : Hid (∀ v, (R v).length = WW) := fun v => by rw [← hR]; exact rowL_len _ _ _
          have HRA : Hid (∀ v, v < pb → (R v).getD xn 0 = smpV (tpA kind pa WW xn) ((S.drop (v * pa)).take pa)) := fun v hv => by
            rw [← hR]
            show (rowL _ kind WW).getD xn 0 = _
            rw [rowL_at HXY.out.1, (row_of (HU.out.2.1.trans HZ.out.2.1) hv).1]
          clear hR
          go_wp2_with fail
          go_loopg [33, 34] pb (fun mm s33 s34 wx => ∃ (v : Nat) (bs : List Nat), s34 = .int .i64 (v : Int) ∧ v + mm = pb ∧ Hid (bs.length = v ∧ Rws w11 wx s33 bs WW R))
          case atStart => exact ⟨0, [], rfl, by omega, rfl, Rws.start (Q.refl _) WW R⟩
          case round =>
            obtain ⟨v, bs, rfl, hvm, HR⟩ := hrel
            have p0 := HR.out.2.q.cell HPF.out.1
            have p1 := HR.out.2.q.cell HPF.out.2.1
            by_cases hvl : v < pb
            · have hvl' : (v : Int) < (pb : Int) := by omega
              have p2 := HR.out.2.q.cell HPF.out.2.2
              obtain ⟨m, hm⟩ : ∃ m, v * pa = m := ⟨_, rfl⟩
              obtain ⟨m2, hm2⟩ : ∃ m2, m + pa = m2 := ⟨_, rfl⟩
              have hmf := mul_facts hm hm2
              have hmn2 : m2 ≤ n := by
                have h1 : (v + 1) * pa ≤ pb * pa := Nat.mul_le_mul_right _ hvl
                rw [Nat.add_mul, Nat.one_mul, Nat.mul_comm pb pa, ← HZ.out.2.1, hm, hm2] at h1
                exact h1
              have hpa := HZ.out.2.2.1.a1
              have hsl := slice_row gs os n c m m2 (by omega) (by have := HZ.out.1; omega) wr
              have hd : m2 - m = pa := by omega
              rw [hd] at hsl
              have CR := HRw.out v wr hvl (HW11.out.trans HR.out.2.q)
              rw [hm] at CR
              have f1 := hmf.1
              have f2 := hmf.2
              have hvb : (v : Int) ≤ 1024 := by have := HZ.out.2.2.1.b2; omega
              have b1 : (m : Int) ≤ 65536 := by omega
              have b2 : (m2 : Int) ≤ 65536 := by omega
              have hWne : ((WW : Int) != (WW : Int)) = false := by simp
              have HVL : Hid (v < pb) := hvl
              clear hmf hm hm2 hd hmn2 hpa
              go_wp2_with fail
              refine Calls.mono CR ?_
              rintro e w12 ⟨b, rfl, hO⟩
              have HO : Hid (Own wr w12 b (R v)) := hO
              clear hO CR hsl p0 p1 p2
              have hlt : b < w12.heap.size := by
                have h1 := HRL.out v
                have h2 := HZ.out.2.2.2.1.a1
                exact World.block_lt_of_cell? _ _ (HO.out.cells 0 (by omega))
              obtain ⟨v', x2, happ, hR2⟩ := HR.out.2.app HO.out.q HO.out.new hlt (by have := HO.out.cells; rw [← HR.out.1] at this; exact this) (by have := HR.out.1; have := HZ.out.2.2.1.b2; have := HVL.out; omega)
              have HR2 : Hid ((bs ++ [b]).length = v + 1 ∧ Rws w11 x2 v' (bs ++ [b]) WW R) := ⟨by rw [List.length_append, HR.out.1]; rfl, hR2⟩
              clear hR2 hlt
              go_wp2_with (at_builtin; go_must (refine wpList_appK (.tmp 277) (.tmp 279) 45 rfl rfl rfl rfl happ ?_))
              go_roundg (pb - (v + 1))
              case measure => go_light; omega
              case rel => go_light; exact ⟨v + 1, bs ++ [b], by go_num, by omega, HR2⟩
            · obtain rfl : v = pb := by omega
              have hge2 : ¬ (v : Int) < (v : Int) := by omega
              obtain ⟨wq, rfl⟩ : ∃ wq, wq = wr := ⟨_, rfl⟩
              obtain ⟨gR, cR, hform, hcells⟩ := HR.out.2.form (by rw [HR.out.1]; exact HZ.out.2.2.1.b1)
              rw [HR.out.1] at hform
              subst hform
              have HCL : Hid (∀ j b, bs[j]? = some b → wq.cell? ⟨gR, j, none⟩ = some (.slice (some ⟨b, 0, none⟩) WW WW)) := hcells
              clear hcells
              go_wp2_with fail
              clear p0 p1
              go_loopg [37, 38] v (fun mm s37 s38 wx => ∃ u : Nat, s38 = .int .i64 (u : Int) ∧ u + mm = v ∧ Hid (OwnR wq wx s37 (colL R xn u)))
              case atStart => exact ⟨0, rfl, by omega, OwnR.start wq wq (Q.refl _)⟩
              case round =>
                obtain ⟨u, rfl, hum, HC⟩ := hrel
                have p1 := (HR.out.2.q.trans HC.out.2).cell HPF.out.2.1
                by_cases hul : u < v
                · have hul' : (u : Int) < (v : Int) := by omega
                  have hub : (u : Int) ≤ 1024 := by have := HZ.out.2.2.1.b2; omega
                  obtain ⟨b, hb⟩ : ∃ b, bs[u]? = some b := ⟨_, List.getElem?_eq_getElem (by rw [HR.out.1]; exact hul)⟩
                  have c1 := HC.out.2.cell (HCL.out u b hb)
                  have c2 := HC.out.2.cell ((HR.out.2.rows u b hb).1 xn (by rw [HRL.out]; exact HXY.out.1))
                  rw [Nat.zero_add] at c2
                  have hxl : (xn : Int) < (WW : Int) := by have := HXY.out.1; omega
                  obtain ⟨sv, hsv⟩ : ∃ sv, (R u).getD xn 0 = sv := ⟨_, rfl⟩
                  have HSV : Hid (colL R xn u ++ [sv] = colL R xn (u + 1)) := by rw [← hsv]; exact colL_step R xn u
                  have HUL : Hid (u < v ∧ (colL R xn u).length + 1 ≤ 100000) := ⟨hul, by rw [colL_len]; have := HZ.out.2.2.1.b2; omega⟩
                  rw [hsv] at c2
                  clear hb hsv
                  go_wp2_with (at_builtin; go_must (refine wpList_addR _ wq rfl (.tmp 287) (.tmp 295) rfl _ (colL R xn u) rfl (HC.out.next ((Q.refl _).cells _ _)) wr.heap.size sv rfl (by simp [go_sem]) HUL.out.2 ?_; intro v9 w9 hown9))
                  have HO9 : Hid (OwnR wq w9 v9 (colL R xn (u + 1))) := by rw [HSV.out] at hown9; exact hown9
                  clear hown9
                  go_roundg (v - (u + 1))
                  case measure => go_light; omega
                  case rel => go_light; exact ⟨u + 1, by go_num, by omega, HO9⟩
                · obtain rfl : u = v := by omega
                  have hge3 : ¬ (u : Int) < (u : Int) := by omega
                  obtain ⟨ad9, cp9, hf9⟩ := HC.out.usl.form
                  rw [colL_len] at hf9
                  subst hf9
                  have hCb : ∀ i, (colL R xn u).getD i 0 < 4294967296 := fun i => by
                    by_cases hi : i < u
                    · rw [colL_at hi, HRA.out i hi]; exact smpV_lt _ _
                    · rw [List.getD_eq_getElem?_getD, List.getElem?_eq_none (by rw [colL_len]; omega)]; decide
                  have hCE : rowE (colL R xn u).length kind HH = 0 := by
                    rw [colL_len]
                    unfold rowE
                    rw [if_pos ⟨⟨HZ.out.2.2.1.b1, HZ.out.2.2.1.b2⟩, by have := HZ.out.2.2.2.1.b1; have := HZ.out.2.2.2.1.b2; omega⟩]
                    exact HZ.out.2.2.2.2.2.1
                  have CF := row_good _ (colL R xn u) kind (HH : Int) wr HC.out.usl hCb hCE
                  rw [Int.toNat_natCast] at CF
                  have HCF : Hid _ := CF
                  have HVf : Hid ((rowL (colL R xn u) kind HH).getD yn 0 = VV) := by
                    show _ = _
                    rw [rowL_at HXY.out.2, colL_len, ← HVV.out]
                    exact whl_rows HXt.out.1 HXt.out.2 (HU.out.2.1.trans HZ.out.2.1) HRA.out (colL_len _ _ _) (fun j hj => colL_at hj)
                  clear hCb hCE CF
                  go_wp2_with fail
                  clear p1
                  refine Calls.mono HCF.out ?_
                  rintro e wz ⟨bz, rfl, hOz⟩
                  have HOz : Hid (Own wr wz bz (rowL (colL R xn u) kind HH)) := hOz
                  have HQz : Hid (Q w11 wz) := HR.out.2.q.trans (HC.out.2.trans hOz.q)
                  clear hOz
                  go_wp2_with fail
                  have ac := HQz.out.cell HQV.out.1
                  have av := HQz.out.cell HQV.out.2
                  have lz : wz.cell? ⟨bz, yn, none⟩ = some (.int .u32 (VV : Int)) := by
                    have h := HOz.out.cells yn (by rw [rowL_len]; exact HXY.out.2)
                    rw [HVf.out, Nat.zero_add] at h
                    exact h
                  have hyl : (yn : Int) < (HH : Int) := by have := HXY.out.2; omega
                  have har1 := HAR.out.1
                  have har2 := HAR.out.2.1
                  have har3 := HAR.out.2.2
                  have hVe : ((VV : Int) == (VV : Int)) = true := by simp
                  have hHe : ((HH : Int) == (HH : Int)) = true := by simp
                  have n0 := qw_some wz
                  have f0 := qw_cell lz
                  have f1 := qw_cell ac
                  have f2 := qw_cell av
                  refine wp_region_quiet_Q (by kernel_rfl) (by kernel_rfl) ?_
                  repeat (first | go_big_quiet_step (fail) | quiet_step (fail))
                  refine wpQuiet_nil ?_
                  intro wl hw'
                  have HEND : Hid (Q W0 wl) := HW11.out.trans (HQz.out.trans (qw_out hw'))
                  clear hw' n0 f0 f1 f2 ac av lz har1 har2 har3
                  go_wp2_with fail
                  go_ret
                  exact ⟨rfl, HEND.out⟩
end Go.Proofs.Ytdbbpmadkhedlaa
