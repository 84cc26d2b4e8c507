/- The statement RankRises: its walk. -/
import Derived.Carry
import Derived.Test.YtikhmlcmmabapaaG16cf706c
import Derived.Test.YtikhmlcmmabapaaG7c0679ab
import Derived.Test.YtikhmlcmmabapaaGc184e91c
import Derived.Test.YtikhmlcmmabapaaG77bb0b4f
import Derived.Test.YtikhmlcmmabapaaG5632b6a9
import Derived.Test.YtikhmlcmmabapaaG4c0ecf39
import Derived.Deep.CutRange
import Derived.Test.YtikhmlcmmabapaaG73016258
namespace Go.Proofs.Ytikhmlcmmabapaa
open Go.RowKit
set_option linter.unusedVariables false
set_option linter.unusedSimpArgs false

/-- A sample. -/
def Sam (s : Nat) : Prop := s < 4294967296
set_option maxHeartbeats 8000000 in
set_option maxRecDepth 100000 in
theorem rrises_walk (W0 : World) (pw ph bd W H k m : Int) (sv ov : Value) (S A : List Nat) (us : USl W0 sv S) (hSb : ∀ i, S.getD i 0 < 4294967296) (hml : S.length ≤ 9223372036854775807) (uo : USl W0 ov A) (hAb : ∀ i, A.getD i 0 < 4294967296) (hal : A.length ≤ 9223372036854775807) :
    Calls Try.prog 4 #[.agg #[.int .i64 pw, .int .i64 ph, sv], ov, .int .i64 bd, .int .i64 W, .int .i64 H, .int .i64 k, .int .i64 m] W0 fun e w' => e = .returned (.bool true) ∧ Qb W0 w' := by
  obtain ⟨ad, c, rfl⟩ := us.form
  obtain ⟨n, hn⟩ : ∃ n, S.length = n := ⟨_, rfl⟩
  rw [hn] at us hml
  rw [hn]
  obtain ⟨ado, co, rfl⟩ := uo.form
  obtain ⟨no, hno⟩ : ∃ no, A.length = no := ⟨_, rfl⟩
  rw [hno] at uo hal
  rw [hno]
  obtain ⟨w1, hw1⟩ : ∃ w1, W0.alloc (.cells #[.int .i64 pw, .int .i64 ph, .slice ad n c] 24) = w1 := ⟨_, rfl⟩
  have q1 : Q W0 w1 := by rw [← hw1]; exact (Q.refl W0).cells _ _
  have p0 : w1.cell? ⟨W0.heap.size, 0, none⟩ = some (.int .i64 pw) := by rw [← hw1]; simp [go_sem]
  have p1 : w1.cell? ⟨W0.heap.size, 1, none⟩ = some (.int .i64 ph) := by rw [← hw1]; simp [go_sem]
  have p2 : w1.cell? ⟨W0.heap.size, 2, none⟩ = some (.slice ad n c) := by rw [← hw1]; simp [go_sem]
  obtain ⟨bp, hbp⟩ : ∃ bp, W0.heap.size = bp := ⟨_, rfl⟩
  rw [hbp] at p0 p1 p2
  have HK : Hid _ := fun x => known12_any x
  have HM : Hid _ := fun x => small12_any pw ph ad n c x
  have HU : Hid (USl W0 (.slice ad n c) S ∧ S.length = n ∧ (∀ i, S.getD i 0 < 4294967296) ∧ n ≤ 9223372036854775807) := ⟨us, hn, hSb, hml⟩
  have HO : Hid (USl W0 (.slice ado no co) A ∧ A.length = no ∧ (∀ i, A.getD i 0 < 4294967296) ∧ no ≤ 9223372036854775807) := ⟨uo, hno, hAb, hal⟩
  have HQ1 : Hid (Qb W0 w1) := q1.qb
  clear us hn hSb hml q1 uo hno hAb hal
  go_enter Try.func4, Try.ntmps4
  go_wp2_with fail
  clear hw1 hbp
  refine Calls.mono (HK.out _) ?_
  rintro e w2 ⟨rfl, q2⟩
  have p0 := q2.cell p0
  have p1 := q2.cell p1
  have p2 := q2.cell p2
  have HQ2 : Hid (Qb W0 w2) := HQ1.out.trans q2
  clear q2
  go_wp2_with fail
  refine Calls.mono (HM.out _) ?_
  rintro e w3 ⟨rfl, q3⟩
  have p0 := q3.cell p0
  have p1 := q3.cell p1
  have p2 := q3.cell p2
  have HQ3 : Hid (Qb W0 w3) := HQ2.out.trans q3.qb
  clear q3
  cases smlR pw ph n
  · go_wp2_with fail
    go_ret
    exact ⟨rfl, HQ3.out⟩
  by_cases hon : no < n
  · have hon' : (no : Int) < (n : Int) := by omega
    go_wp2_with fail
    go_ret
    exact ⟨rfl, HQ3.out⟩
  have hon' : ¬ (no : Int) < (n : Int) := by omega
  have HON : Hid (n ≤ no) := by show n ≤ no; omega
  clear hon
  go_wp2_with fail
  by_cases hE : rkE pw ph n bd W H k = 0 ∧ rkE pw ph n bd W H m = 0
  · obtain ⟨pa, pb, b, wa, ha, kk, rfl, rfl, rfl, rfl, rfl, rfl, hsz, hnn, hb, a1, a2, b1, b2, hkk⟩ := rkE_ok hE.1
    obtain ⟨mm, rfl, hmm⟩ : ∃ mm : Nat, m = (mm : Int) ∧ mm < wa * ha := by
      obtain ⟨_, _, _, wa', ha', mm, _, _, _, ew, eh, e, _, _, _, _, _, _, _, hmm⟩ := rkE_ok hE.2
      obtain rfl : wa = wa' := by omega
      obtain rfl : ha = ha' := by omega
      exact ⟨mm, e, hmm⟩
    obtain ⟨gs, os, cs, hv, hcs, hUI⟩ := HU.out.1.some (by rw [HU.out.2.1, hnn]; exact hsz.pos)
    rw [HU.out.2.1] at hv hcs
    injection hv with hv1 _ hv2
    subst hv1 hv2
    have hn1 : 1 ≤ n := by rw [hnn]; exact hsz.pos
    have hn2 : n ≤ 65536 := by rw [hnn]; exact hsz.ab
    obtain ⟨go, oo, cs', hv, hcs', hUO⟩ := HO.out.1.some (by rw [HO.out.2.1]; have := HON.out; omega)
    rw [HO.out.2.1] at hv hcs'
    injection hv with hv1 _ hv2
    subst hv1 hv2
    have HG : Hid ((∀ x, Qb W0 x → UIs x gs os S) ∧ gs < W0.heap.size ∧ (∀ x, Qb W0 x → UIs x go oo A) ∧ go < W0.heap.size) := ⟨fun x q => hUI.nextB q, World.block_lt_of_cell? _ _ (hUI 0 (by rw [HU.out.2.1]; omega)), fun x q => hUO.nextB q, World.block_lt_of_cell? _ _ (hUO 0 (by rw [HO.out.2.1]; have := HON.out; omega))⟩
    have HZ : Hid (n ≤ c ∧ n = pa * pb ∧ Size pa pb ∧ (b = 1 ∨ b = 2 ∨ b = 3) ∧ 1 ≤ wa ∧ wa ≤ 15 ∧ 1 ≤ ha ∧ ha ≤ 15 ∧ kk < wa * ha ∧ mm < wa * ha) := ⟨hcs, hnn, hsz, hb, a1, a2, b1, b2, hkk, hmm⟩
    have HC : Hid (∀ (x : World) (g o cc : Nat) (L : List Nat) (k' : Nat), UIs x g o L → n ≤ cc → L.length = n → (∀ i, L.getD i 0 < 4294967296) → k' < wa * ha → Calls Try.prog 9 #[.agg #[.int .i64 (pa : Int), .int .i64 (pb : Int), .slice (some ⟨g, o, none⟩) n cc], .int .i64 (b : Int), .int .i64 (wa : Int), .int .i64 (ha : Int), .int .i64 (k' : Int)] x (Rgd x pa pb n (rnkL L pa pb b wa ha k'))) := fun x g o cc L k' h1 h2 h3 h4 h5 => plane_gd h1 h2 h3 hnn h4 hsz hb a1 a2 b1 b2 h5
    have HC1 : Hid (∀ (x : World), UIs x gs os S → Calls Try.prog 9 #[.agg #[.int .i64 (pa : Int), .int .i64 (pb : Int), .slice (some ⟨gs, os, none⟩) n c], .int .i64 (b : Int), .int .i64 1, .int .i64 1, .int .i64 0] x (Rgd x pa pb n S)) := fun x h => by
      have := plane_gd (wa := 1) (ha := 1) (kk := 0) h hcs HU.out.2.1 hnn HU.out.2.2.1 hsz hb (by omega) (by omega) (by omega) (by omega) (by omega)
      rw [rnk_one (HU.out.2.1.trans hnn) HU.out.2.2.1] at this
      exact this
    have HCe : Hid (∀ (x : World), UIs x gs os S → Calls Try.prog 13 #[.agg #[.int .i64 (pa : Int), .int .i64 (pb : Int), .slice (some ⟨gs, os, none⟩) n c], .int .i64 (b : Int), .int .i64 (wa : Int), .int .i64 (ha : Int)] x (Rgd x pa pb n (rnkL S pa pb b wa ha 0))) := fun x h => erode_gd h hcs HU.out.2.1 hnn HU.out.2.2.1 hsz hb a1 a2 b1 b2
    have HCd : Hid (∀ (x : World), UIs x gs os S → Calls Try.prog 14 #[.agg #[.int .i64 (pa : Int), .int .i64 (pb : Int), .slice (some ⟨gs, os, none⟩) n c], .int .i64 (b : Int), .int .i64 (wa : Int), .int .i64 (ha : Int)] x (Rgd x pa pb n (rnkL S pa pb b wa ha (wa * ha - 1)))) := fun x h => dilate_gd h hcs HU.out.2.1 hnn HU.out.2.2.1 hsz hb a1 a2 b1 b2
    obtain ⟨cB, hcB⟩ : ∃ cB : Nat → Bool, (fun j => decide (keyN (A.getD j 0) < keyN (S.getD j 0))) = cB := ⟨_, rfl⟩
    have HB : Hid (∀ j, cB j = true ↔ keyN (A.getD j 0) < keyN (S.getD j 0)) := fun j => by rw [← hcB]; simp
    clear hE hnn hsz hb a1 a2 b1 b2 hkk hmm hcs hUI hUO hcs' hcB
    refine Calls.mono (HC.out _ gs os c S kk (HG.out.1 _ HQ3.out) HZ.out.1 HU.out.2.1 HU.out.2.2.1 HZ.out.2.2.2.2.2.2.2.2.1) ?_
    rintro e xa ⟨ga, rfl, ⟨hua, _, _, _⟩, ra⟩
    obtain ⟨za, hza⟩ : ∃ za, xa.alloc (.cells #[.int .i64 (pa : Int), .int .i64 (pb : Int), .slice (some ⟨ga, 0, none⟩) n n] 24) = za := ⟨_, rfl⟩
    have hqa : Qb xa za := by rw [← hza]; exact (Qb.refl xa).alloc _
    obtain ⟨Ba, hBa⟩ : ∃ Ba, xa.heap.size = Ba := ⟨_, rfl⟩
    have HLa : Hid (UIs za ga 0 (rnkL S pa pb b wa ha kk) ∧ za.cell? ⟨Ba, 0, none⟩ = some (.int .i64 (pa : Int)) ∧ za.cell? ⟨Ba, 1, none⟩ = some (.int .i64 (pb : Int)) ∧ za.cell? ⟨Ba, 2, none⟩ = some (.slice (some ⟨ga, 0, none⟩) n n)) := ⟨hua.nextB hqa, by rw [← hBa, ← hza]; simp [go_sem], by rw [← hBa, ← hza]; simp [go_sem], by rw [← hBa, ← hza]; simp [go_sem]⟩
    have HNa : Hid (Qb w3 za) := ra.trans hqa
    clear hua ra hqa
    have p0 := HNa.out.cell p0
    have p1 := HNa.out.cell p1
    have p2 := HNa.out.cell p2
    have HWa : Hid (Qb W0 za) := Qb.trans HQ3.out HNa.out
    go_wp2_with fail
    clear hza hBa
    refine Calls.mono (HC.out _ gs os c S mm (HG.out.1 _ HWa.out) HZ.out.1 HU.out.2.1 HU.out.2.2.1 HZ.out.2.2.2.2.2.2.2.2.2) ?_
    rintro e xb ⟨gb, rfl, ⟨hub, _, _, _⟩, rb⟩
    obtain ⟨zb, hzb⟩ : ∃ zb, xb.alloc (.cells #[.int .i64 (pa : Int), .int .i64 (pb : Int), .slice (some ⟨gb, 0, none⟩) n n] 24) = zb := ⟨_, rfl⟩
    have hqb : Qb xb zb := by rw [← hzb]; exact (Qb.refl xb).alloc _
    obtain ⟨Bb, hBb⟩ : ∃ Bb, xb.heap.size = Bb := ⟨_, rfl⟩
    have HLb : Hid (UIs zb gb 0 (rnkL S pa pb b wa ha mm) ∧ zb.cell? ⟨Bb, 0, none⟩ = some (.int .i64 (pa : Int)) ∧ zb.cell? ⟨Bb, 1, none⟩ = some (.int .i64 (pb : Int)) ∧ zb.cell? ⟨Bb, 2, none⟩ = some (.slice (some ⟨gb, 0, none⟩) n n)) := ⟨hub.nextB hqb, by rw [← hBb, ← hzb]; simp [go_sem], by rw [← hBb, ← hzb]; simp [go_sem], by rw [← hBb, ← hzb]; simp [go_sem]⟩
    have HNb : Hid (Qb za zb) := rb.trans hqb
    clear hub rb hqb
    have p0 := HNb.out.cell p0
    have p1 := HNb.out.cell p1
    have p2 := HNb.out.cell p2
    have HWb : Hid (Qb W0 zb) := Qb.trans HWa.out HNb.out
    go_wp2_with fail
    clear hzb hBb
    refine regionCp (pw := (pa : Int)) (ph := (pb : Int)) (ad := some ⟨gs, os, none⟩) (n := n) (c := c) (b5 := bp) (S := S) rfl rfl ⟨rfl, p0, p1, p2, fun x q => hcopy_cp (pa : Int) (pb : Int) (some ⟨gs, os, none⟩) n c S x (HU.out.1.nextB (HWb.out.trans q.qb)) HU.out.2.1 (by omega)⟩ ?_
    intro wb a1 c1 a2 c2 g1 g2 HT
    rw [normCp]
    rcases HT.two with h0 | ⟨r1, r2, rfl, rfl, e1, e2, e3, e4, e5, e6, e7, e8, e9, e10, e11⟩
    · omega
    have HB0 : Hid (bp < zb.heap.size ∧ gs < zb.heap.size ∧ go < zb.heap.size) := ⟨World.block_lt_of_cell? zb ⟨bp, 0, none⟩ p0, Nat.lt_of_lt_of_le HG.out.2.1 HWb.out.sz, Nat.lt_of_lt_of_le HG.out.2.2.2 HWb.out.sz⟩
    have T0 : Tw zb wb g1 g2 r1 r2 pa pb n c1 c2 (selK cB A S 0) (selK (fun j => !cB j) A S 0) := by
      have z : ∀ (f : Nat → Bool) j, selK f A S 0 j = S.getD j 0 := fun f j => by unfold selK; rw [if_neg (by omega)]
      refine ⟨HT.q.qb, HT.c10, HT.c11, HT.c12, HT.c20, HT.c21, HT.c22, ⟨fun i hj => ?_, e10⟩, ⟨fun i hj => ?_, e11⟩, e3, e4, e5, e6, e7, e1, e2⟩
      · rw [z]; have := e8 i (by rw [HU.out.2.1]; exact hj); rw [Nat.zero_add] at this; exact this
      · rw [z]; have := e9 i (by rw [HU.out.2.1]; exact hj); rw [Nat.zero_add] at this; exact this
    obtain ⟨wm, hwm⟩ : ∃ wm, wb.alloc (.map #[] 0) = wm := ⟨_, rfl⟩
    obtain ⟨bm, hbm⟩ : ∃ bm, wb.heap.size = bm := ⟨_, rfl⟩
    have hlt : g1 < bm ∧ g2 < bm ∧ r1 < bm ∧ r2 < bm ∧ zb.heap.size ≤ bm := by
      rw [← hbm]
      exact ⟨World.block_lt_of_cell? _ _ T0.c10, World.block_lt_of_cell? _ _ T0.c20, T0.v1.lt hn1, T0.v2.lt hn1, T0.q.sz⟩
    have HT0 : Hid (TwM zb wm g1 g2 r1 r2 pa pb n c1 c2 bm 0 cB A S) := by
      refine ⟨?_, ?_, by omega, by omega, by omega, by omega, by omega⟩
      · rw [← hwm]
        exact T0.grown hn1 (World.grownBy_alloc wb _ none) (T0.q.alloc _) (by simp) (by simp) (by simp) (by simp)
      · rw [← hwm, ← hbm]
        obtain ⟨D, h1, h2⟩ := Mp.made wb
        exact ⟨D, h1, fun s ⟨j, hj, _⟩ => by omega⟩
    have HCC : Hid (n ≤ c1 ∧ n ≤ c2) := ⟨HT.k1, HT.k2⟩
    have HPZ : Hid (zb.cell? ⟨bp, 0, none⟩ = some (.int .i64 (pa : Int)) ∧ zb.cell? ⟨bp, 1, none⟩ = some (.int .i64 (pb : Int)) ∧ zb.cell? ⟨bp, 2, none⟩ = some (.slice (some ⟨gs, os, none⟩) n c)) := ⟨p0, p1, p2⟩
    clear HT e1 e2 e3 e4 e5 e6 e7 e8 e9 e10 e11 p0 p1 p2 T0 hlt
    have hmk := @run_makeMap Try.prog
    go_wp2_with fail
    clear hwm hbm hmk
    go_loopg [22] n (fun mm s22 wr => ∃ i : Nat, s22 = .int .i64 (i : Int) ∧ i + mm = n ∧ Hid (TwM zb wr g1 g2 r1 r2 pa pb n c1 c2 bm i cB A S))
    case atStart => exact ⟨0, rfl, by omega, HT0⟩
    case round =>
      clear HT0
      obtain ⟨i, rfl, hin, HT⟩ := hrel
      by_cases hlt : i < n
      · have hlt' : (i : Int) < (n : Int) := by omega
        have hlo' : (i : Int) < (no : Int) := by have := HON.out; omega
        have p2 := HT.out.t.q.cell HPZ.out.2.2
        have hlim : i ≤ 65536 := by omega
        have hcl := (HG.out.1 wr (HWb.out.trans HT.out.t.q)) i (by rw [HU.out.2.1]; exact hlt)
        have hsb := HU.out.2.2.1 i
        obtain ⟨s, hs⟩ : ∃ s, S.getD i 0 = s := ⟨_, rfl⟩
        rw [hs] at hcl hsb
        have hoc := (HG.out.2.2.1 wr (HWb.out.trans HT.out.t.q)) i (by rw [HO.out.2.1]; have := HON.out; omega)
        have hob := HO.out.2.2.1 i
        obtain ⟨t, ht⟩ : ∃ t, A.getD i 0 = t := ⟨_, rfl⟩
        rw [ht] at hoc hob
        obtain ⟨x1, hrun, hm1, hg1⟩ := Mp.put HT.out.m hsb (by omega)
        have HM1 : Hid (Tw zb x1 g1 g2 r1 r2 pa pb n c1 c2 (selK cB A S i) (selK (fun j => !cB j) A S i) ∧ Mp x1 bm (i + 1) (fun u => ∃ j, j < i + 1 ∧ S.getD j 0 = u)) := by
          have h := HT.out
          refine ⟨h.t.grown hn1 hg1 (h.t.q.grown hg1 h.lb) (by simp [h.a1]) (by simp [h.a2]) (by simp [h.a3]) (by simp [h.a4]), ?_⟩
          obtain ⟨D, d1, d2⟩ := hm1
          refine ⟨D, d1, fun u ⟨j, hj, hu⟩ => d2 u ?_⟩
          by_cases e : j = i
          · subst e; exact Or.inr (by rw [← hu, hs])
          · exact Or.inl ⟨j, by omega, hu⟩
        have HBM : Hid (bp ≠ bm ∧ gs ≠ bm ∧ go ≠ bm ∧ g1 ≠ bm ∧ g2 ≠ bm ∧ r1 ≠ bm ∧ r2 ≠ bm ∧ zb.heap.size ≤ bm) := by
          have h := HT.out
          have h0 := h.lb
          have h1 := HB0.out
          exact ⟨by omega, by omega, by omega, h.a1, h.a2, h.a3, h.a4, h0⟩
        have HST : Hid (S.getD i 0 = s ∧ A.getD i 0 = t) := ⟨hs, ht⟩
        have y2 := grown_cell hg1 (by simp [HBM.out.1]) p2
        have ycl := grown_cell hg1 (by simp [HBM.out.2.1]) hcl
        have yoc := grown_cell hg1 (by simp [HBM.out.2.2.1]) hoc
        clear hm1 hg1 hs ht HT
        go_wp2_with fail
        clear p2 hcl hoc hrun
        have HKy : Hid (∀ (nw : QW x1) (u : Nat), Sam u → Calls Try.prog 15 #[.int .u32 (u : Int)] nw.x fun e w' => e = .returned (.int .u32 ((keyN u : Nat) : Int)) ∧ w' = nw.x) := fun nw u hu => kkey_any u hu nw.x
        have z1 : Sam s := hsb
        have z2 : Sam t := hob
        have n0 := qw_some x1
        have f1 := qw_cell y2
        have f2 := qw_cell ycl
        have f3 := qw_cell yoc
        refine wp_region_quiet_Q (by kernel_rfl) (by kernel_rfl) ?_
        repeat (first | go_big_quiet_step (first | (go_at_call 15; exact calls_qs (HKy.out _ _ (by assumption)))) | quiet_step (first | (go_at_call 15; exact calls_qs (HKy.out _ _ (by assumption)))))
        refine wpQuiet_nil ?_
        intro w4 hw'
        have hq4 := qw_out hw'
        have y2 := hq4.cell y2
        have yoc := hq4.cell yoc
        have HM4 : Hid (Tw zb w4 g1 g2 r1 r2 pa pb n c1 c2 (selK cB A S i) (selK (fun j => !cB j) A S i) ∧ Mp w4 bm (i + 1) (fun u => ∃ j, j < i + 1 ∧ S.getD j 0 = u)) := ⟨HM1.out.1.nextQ hq4, Mp.same HM1.out.2 (hq4.1.block bm (Mp.lt HM1.out.2))⟩
        clear hw' hq4 n0 f1 f2 f3 ycl HM1 HKy z1 z2
        by_cases hkt : keyN t < keyN s
        · have hkt' : ((keyN t : Nat) : Int) < ((keyN s : Nat) : Int) := by omega
          have hcB : cB i = true := (HB.out i).2 (by rw [HST.out.1, HST.out.2]; exact hkt)
          have d2 := HM4.out.1.c12
          have dv := HM4.out.1.v1.cell i hlt
          have df := HM4.out.1.v1.free i
          have HCB : Hid (cB i = true) := hcB
          clear hkt hcB
          go_wp2_with fail
          have n0 := qw_some w4
          have f1 := qw_cell d2
          have f2 := qw_cell yoc
          refine wp_region_lastn 8 rfl _ rfl (by kernel_rfl) (by kernel_rfl) (by kernel_rfl) ?_
          simp only [List.take_succ_cons, List.take_zero]
          repeat (first | go_big_quiet_step (fail) | quiet_step (fail))
          refine wpQuiet_nil ?_
          intro nn K hK
          have cz := nn.q.cell dv
          have fz : nn.x.frozen? ⟨r1, i, none⟩ = false := by rw [nn.q.2]; exact df
          have HY : Hid (TwM zb (nn.x.setCell ⟨r1, i, none⟩ (.int .u32 (t : Int))) g1 g2 r1 r2 pa pb n c1 c2 bm (i + 1) cB A S) := by
            have := TwM.put1 (HM4.out.1.nextQ nn.q) (Mp.same HM4.out.2 (nn.q.1.block bm (Mp.lt HM4.out.2))) HBM.out.2.2.2.1 HBM.out.2.2.2.2.1 HBM.out.2.2.2.2.2.1 HBM.out.2.2.2.2.2.2.1 HBM.out.2.2.2.2.2.2.2 hlt HCB.out
            rw [HST.out.2] at this
            exact this
          clear n0 f1 f2
          go_wp2_with fail
          generalize nn.x.setCell ⟨r1, i, none⟩ (.int .u32 (t : Int)) = w8 at HY ⊢
          go_roundg (n - (i + 1))
          case measure => go_light; omega
          case rel => go_light; exact ⟨i + 1, by go_num, by omega, HY⟩
        · have hkt' : ¬ ((keyN t : Nat) : Int) < ((keyN s : Nat) : Int) := by omega
          have hcB : cB i = false := by
            cases hh : cB i
            · rfl
            · have := (HB.out i).1 hh
              rw [HST.out.1, HST.out.2] at this
              exact absurd this hkt
          have d2 := HM4.out.1.c22
          have dv := HM4.out.1.v2.cell i hlt
          have df := HM4.out.1.v2.free i
          have HCB : Hid (cB i = false) := hcB
          clear hkt hcB
          go_wp2_with fail
          have n0 := qw_some w4
          have f1 := qw_cell d2
          have f2 := qw_cell yoc
          refine wp_region_lastn 8 rfl _ rfl (by kernel_rfl) (by kernel_rfl) (by kernel_rfl) ?_
          simp only [List.take_succ_cons, List.take_zero]
          repeat (first | go_big_quiet_step (fail) | quiet_step (fail))
          refine wpQuiet_nil ?_
          intro nn K hK
          have cz := nn.q.cell dv
          have fz : nn.x.frozen? ⟨r2, i, none⟩ = false := by rw [nn.q.2]; exact df
          have HY : Hid (TwM zb (nn.x.setCell ⟨r2, i, none⟩ (.int .u32 (t : Int))) g1 g2 r1 r2 pa pb n c1 c2 bm (i + 1) cB A S) := by
            have := TwM.put2 (HM4.out.1.nextQ nn.q) (Mp.same HM4.out.2 (nn.q.1.block bm (Mp.lt HM4.out.2))) HBM.out.2.2.2.1 HBM.out.2.2.2.2.1 HBM.out.2.2.2.2.2.1 HBM.out.2.2.2.2.2.2.1 HBM.out.2.2.2.2.2.2.2 hlt HCB.out
            rw [HST.out.2] at this
            exact this
          clear n0 f1 f2
          go_wp2_with fail
          generalize nn.x.setCell ⟨r2, i, none⟩ (.int .u32 (t : Int)) = w8 at HY ⊢
          go_roundg (n - (i + 1))
          case measure => go_light; omega
          case rel => go_light; exact ⟨i + 1, by go_num, by omega, HY⟩
      · obtain rfl : n = i := by omega
        have hge : ¬ (n : Int) < (n : Int) := by omega
        have p2 := HT.out.t.q.cell HPZ.out.2.2
        have d0 := HT.out.t.c10
        have d1 := HT.out.t.c11
        have d2 := HT.out.t.c12
        have HLEN : Hid (∀ f : Nat → Bool, (selL f A S).length = n) := fun f => by rw [selL_len]; exact HU.out.2.1
        have HSL : Hid (∀ (f : Nat → Bool) (j : Nat), (selL f A S).getD j 0 < 4294967296) := fun f j => selL_lt HO.out.2.2.1 HU.out.2.2.1 j
        have HW4 : Hid (Qb W0 wr) := HWb.out.trans HT.out.t.q
        go_wp2_with fail
        clear d0 d1 d2 p2
        refine Calls.mono (HC.out _ r1 0 c1 (selL cB A S) kk (selK_all HU.out.2.1 HT.out.t.v1) HCC.out.1 (HLEN.out _) (HSL.out _) HZ.out.2.2.2.2.2.2.2.2.1) ?_
        rintro e xc ⟨gc, rfl, ⟨huc, _, _, _⟩, rc⟩
        obtain ⟨zc, hzc⟩ : ∃ zc, xc.alloc (.cells #[.int .i64 (pa : Int), .int .i64 (pb : Int), .slice (some ⟨gc, 0, none⟩) n n] 24) = zc := ⟨_, rfl⟩
        have hqc : Qb xc zc := by rw [← hzc]; exact (Qb.refl xc).alloc _
        obtain ⟨Bc, hBc⟩ : ∃ Bc, xc.heap.size = Bc := ⟨_, rfl⟩
        have HLc : Hid (UIs zc gc 0 (rnkL (selL cB A S) pa pb b wa ha kk) ∧ zc.cell? ⟨Bc, 0, none⟩ = some (.int .i64 (pa : Int)) ∧ zc.cell? ⟨Bc, 1, none⟩ = some (.int .i64 (pb : Int)) ∧ zc.cell? ⟨Bc, 2, none⟩ = some (.slice (some ⟨gc, 0, none⟩) n n)) := ⟨huc.nextB hqc, by rw [← hBc, ← hzc]; simp [go_sem], by rw [← hBc, ← hzc]; simp [go_sem], by rw [← hBc, ← hzc]; simp [go_sem]⟩
        have HNc : Hid (Qb wr zc) := rc.trans hqc
        clear huc rc hqc
        have d0 := HNc.out.cell HT.out.t.c20
        have d1 := HNc.out.cell HT.out.t.c21
        have d2 := HNc.out.cell HT.out.t.c22
        go_wp2_with fail
        clear hzc hBc d0 d1 d2
        refine Calls.mono (HC.out _ r2 0 c2 (selL (fun j => !cB j) A S) kk ((selK_all (c := fun j => !cB j) HU.out.2.1 HT.out.t.v2).nextB HNc.out) HCC.out.2 (HLEN.out _) (HSL.out _) HZ.out.2.2.2.2.2.2.2.2.1) ?_
        rintro e xd ⟨gd, rfl, ⟨hud, _, _, _⟩, rd⟩
        obtain ⟨zd, hzd⟩ : ∃ zd, xd.alloc (.cells #[.int .i64 (pa : Int), .int .i64 (pb : Int), .slice (some ⟨gd, 0, none⟩) n n] 24) = zd := ⟨_, rfl⟩
        have hqd : Qb xd zd := by rw [← hzd]; exact (Qb.refl xd).alloc _
        obtain ⟨Bd, hBd⟩ : ∃ Bd, xd.heap.size = Bd := ⟨_, rfl⟩
        have HLd : Hid (UIs zd gd 0 (rnkL (selL (fun j => !cB j) A S) pa pb b wa ha kk) ∧ zd.cell? ⟨Bd, 0, none⟩ = some (.int .i64 (pa : Int)) ∧ zd.cell? ⟨Bd, 1, none⟩ = some (.int .i64 (pb : Int)) ∧ zd.cell? ⟨Bd, 2, none⟩ = some (.slice (some ⟨gd, 0, none⟩) n n)) := ⟨hud.nextB hqd, by rw [← hBd, ← hzd]; simp [go_sem], by rw [← hBd, ← hzd]; simp [go_sem], by rw [← hBd, ← hzd]; simp [go_sem]⟩
        have HNd : Hid (Qb zc zd) := rd.trans hqd
        clear hud rd hqd
        have HPd : Hid (Qb zb zd) := HT.out.t.q.trans (HNc.out.trans HNd.out)
        have p0 := HPd.out.cell HPZ.out.1
        have p1 := HPd.out.cell HPZ.out.2.1
        have p2 := HPd.out.cell HPZ.out.2.2
        go_wp2_with fail
        clear hzd hBd
        refine Calls.mono (HCe.out _ (HG.out.1 _ (HWb.out.trans HPd.out))) ?_
        rintro e xu ⟨gu, rfl, ⟨huu, _, _, _⟩, ru⟩
        obtain ⟨zu, hzu⟩ : ∃ zu, xu.alloc (.cells #[.int .i64 (pa : Int), .int .i64 (pb : Int), .slice (some ⟨gu, 0, none⟩) n n] 24) = zu := ⟨_, rfl⟩
        have hqu : Qb xu zu := by rw [← hzu]; exact (Qb.refl xu).alloc _
        obtain ⟨Bu, hBu⟩ : ∃ Bu, xu.heap.size = Bu := ⟨_, rfl⟩
        have HLu : Hid (UIs zu gu 0 (rnkL S pa pb b wa ha 0) ∧ zu.cell? ⟨Bu, 0, none⟩ = some (.int .i64 (pa : Int)) ∧ zu.cell? ⟨Bu, 1, none⟩ = some (.int .i64 (pb : Int)) ∧ zu.cell? ⟨Bu, 2, none⟩ = some (.slice (some ⟨gu, 0, none⟩) n n)) := ⟨huu.nextB hqu, by rw [← hBu, ← hzu]; simp [go_sem], by rw [← hBu, ← hzu]; simp [go_sem], by rw [← hBu, ← hzu]; simp [go_sem]⟩
        have HNu : Hid (Qb zd zu) := ru.trans hqu
        clear huu ru hqu
        have p0 := HNu.out.cell p0
        have p1 := HNu.out.cell p1
        have p2 := HNu.out.cell p2
        go_wp2_with fail
        clear hzu hBu
        refine Calls.mono (HCd.out _ (HG.out.1 _ (HWb.out.trans (HPd.out.trans HNu.out)))) ?_
        rintro e xv ⟨gv, rfl, ⟨huv, _, _, _⟩, rv⟩
        obtain ⟨zv, hzv⟩ : ∃ zv, xv.alloc (.cells #[.int .i64 (pa : Int), .int .i64 (pb : Int), .slice (some ⟨gv, 0, none⟩) n n] 24) = zv := ⟨_, rfl⟩
        have hqv : Qb xv zv := by rw [← hzv]; exact (Qb.refl xv).alloc _
        obtain ⟨Bv, hBv⟩ : ∃ Bv, xv.heap.size = Bv := ⟨_, rfl⟩
        have HLv : Hid (UIs zv gv 0 (rnkL S pa pb b wa ha (wa * ha - 1)) ∧ zv.cell? ⟨Bv, 0, none⟩ = some (.int .i64 (pa : Int)) ∧ zv.cell? ⟨Bv, 1, none⟩ = some (.int .i64 (pb : Int)) ∧ zv.cell? ⟨Bv, 2, none⟩ = some (.slice (some ⟨gv, 0, none⟩) n n)) := ⟨huv.nextB hqv, by rw [← hBv, ← hzv]; simp [go_sem], by rw [← hBv, ← hzv]; simp [go_sem], by rw [← hBv, ← hzv]; simp [go_sem]⟩
        have HNv : Hid (Qb zu zv) := rv.trans hqv
        clear huv rv hqv
        have p0 := HNv.out.cell p0
        have p1 := HNv.out.cell p1
        have p2 := HNv.out.cell p2
        have ka0 := (HNb.out.trans (HPd.out.trans (HNu.out.trans HNv.out))).cell HLa.out.2.1
        have ka1 := (HNb.out.trans (HPd.out.trans (HNu.out.trans HNv.out))).cell HLa.out.2.2.1
        have ka2 := (HNb.out.trans (HPd.out.trans (HNu.out.trans HNv.out))).cell HLa.out.2.2.2
        have kb0 := (HPd.out.trans (HNu.out.trans HNv.out)).cell HLb.out.2.1
        have kb1 := (HPd.out.trans (HNu.out.trans HNv.out)).cell HLb.out.2.2.1
        have kb2 := (HPd.out.trans (HNu.out.trans HNv.out)).cell HLb.out.2.2.2
        have kc0 := (HNd.out.trans (HNu.out.trans HNv.out)).cell HLc.out.2.1
        have kc1 := (HNd.out.trans (HNu.out.trans HNv.out)).cell HLc.out.2.2.1
        have kc2 := (HNd.out.trans (HNu.out.trans HNv.out)).cell HLc.out.2.2.2
        have kd0 := (HNu.out.trans HNv.out).cell HLd.out.2.1
        have kd1 := (HNu.out.trans HNv.out).cell HLd.out.2.2.1
        have kd2 := (HNu.out.trans HNv.out).cell HLd.out.2.2.2
        have ku0 := HNv.out.cell HLu.out.2.1
        have ku1 := HNv.out.cell HLu.out.2.2.1
        have ku2 := HNv.out.cell HLu.out.2.2.2
        have kv0 := (Qb.refl _).cell HLv.out.2.1
        have kv1 := (Qb.refl _).cell HLv.out.2.2.1
        have kv2 := (Qb.refl _).cell HLv.out.2.2.2
        have HMv : Hid (Mp zv bm n (fun u => ∃ j, j < n ∧ S.getD j 0 = u)) := Mp.same HT.out.m ((HNc.out.trans (HNd.out.trans (HNu.out.trans HNv.out))).block bm (Mp.lt HT.out.m))
        have HUv : Hid (UIs zv gs os S ∧ UIs zv ga 0 (rnkL S pa pb b wa ha kk) ∧ UIs zv gb 0 (rnkL S pa pb b wa ha mm) ∧ UIs zv gc 0 (rnkL (selL cB A S) pa pb b wa ha kk) ∧ UIs zv gd 0 (rnkL (selL (fun j => !cB j) A S) pa pb b wa ha kk) ∧ UIs zv gu 0 (rnkL S pa pb b wa ha 0) ∧ UIs zv gv 0 (rnkL S pa pb b wa ha (wa * ha - 1))) := ⟨HG.out.1 _ (HWb.out.trans (HPd.out.trans (HNu.out.trans HNv.out))), HLa.out.1.nextB (HNb.out.trans (HPd.out.trans (HNu.out.trans HNv.out))), HLb.out.1.nextB (HPd.out.trans (HNu.out.trans HNv.out)), HLc.out.1.nextB (HNd.out.trans (HNu.out.trans HNv.out)), HLd.out.1.nextB (HNu.out.trans HNv.out), HLu.out.1.nextB HNv.out, HLv.out.1.nextB (Qb.refl _)⟩
        have HWv : Hid (Qb W0 zv) := HWb.out.trans (HPd.out.trans (HNu.out.trans HNv.out))
        have HSv : Hid (Q zv zv) := Q.refl zv
        clear HT HPZ HPd HNa HNb HNc HNd HNu HNv HLa HLb HLc HLd HLu HLv HWa HWb HW4
        go_upto_region 22 with fail
        clear hzv hBv
        go_cut [194] from 34 to 194 (fun s194 wc => s194 = .bool false ∧ Hid (Q zv wc))
        case first =>
          go_wp2_with fail
          refine Calls.mono (sized_yes _ _ _ _ n n c _) ?_
          rintro e y0 ⟨rfl, s0⟩
          have p0 := s0.cell p0
          have p1 := s0.cell p1
          have p2 := s0.cell p2
          have ka0 := s0.cell ka0
          have ka1 := s0.cell ka1
          have ka2 := s0.cell ka2
          have kb0 := s0.cell kb0
          have kb1 := s0.cell kb1
          have kb2 := s0.cell kb2
          have kc0 := s0.cell kc0
          have kc1 := s0.cell kc1
          have kc2 := s0.cell kc2
          have kd0 := s0.cell kd0
          have kd1 := s0.cell kd1
          have kd2 := s0.cell kd2
          have ku0 := s0.cell ku0
          have ku1 := s0.cell ku1
          have ku2 := s0.cell ku2
          have kv0 := s0.cell kv0
          have kv1 := s0.cell kv1
          have kv2 := s0.cell kv2
          replace HSv : Hid (Q zv y0) := HSv.out.trans s0
          clear s0
          go_wp2_with fail
          refine Calls.mono (sized_yes _ _ _ _ n n c _) ?_
          rintro e y1 ⟨rfl, s1⟩
          have p0 := s1.cell p0
          have p1 := s1.cell p1
          have p2 := s1.cell p2
          have ka0 := s1.cell ka0
          have ka1 := s1.cell ka1
          have ka2 := s1.cell ka2
          have kb0 := s1.cell kb0
          have kb1 := s1.cell kb1
          have kb2 := s1.cell kb2
          have kc0 := s1.cell kc0
          have kc1 := s1.cell kc1
          have kc2 := s1.cell kc2
          have kd0 := s1.cell kd0
          have kd1 := s1.cell kd1
          have kd2 := s1.cell kd2
          have ku0 := s1.cell ku0
          have ku1 := s1.cell ku1
          have ku2 := s1.cell ku2
          have kv0 := s1.cell kv0
          have kv1 := s1.cell kv1
          have kv2 := s1.cell kv2
          replace HSv : Hid (Q zv y1) := HSv.out.trans s1
          clear s1
          go_wp2_with fail
          refine Calls.mono (sized_yes _ _ _ _ n n c _) ?_
          rintro e y2 ⟨rfl, s2⟩
          have p0 := s2.cell p0
          have p1 := s2.cell p1
          have p2 := s2.cell p2
          have ka0 := s2.cell ka0
          have ka1 := s2.cell ka1
          have ka2 := s2.cell ka2
          have kb0 := s2.cell kb0
          have kb1 := s2.cell kb1
          have kb2 := s2.cell kb2
          have kc0 := s2.cell kc0
          have kc1 := s2.cell kc1
          have kc2 := s2.cell kc2
          have kd0 := s2.cell kd0
          have kd1 := s2.cell kd1
          have kd2 := s2.cell kd2
          have ku0 := s2.cell ku0
          have ku1 := s2.cell ku1
          have ku2 := s2.cell ku2
          have kv0 := s2.cell kv0
          have kv1 := s2.cell kv1
          have kv2 := s2.cell kv2
          replace HSv : Hid (Q zv y2) := HSv.out.trans s2
          clear s2
          go_wp2_with fail
          refine Calls.mono (sized_yes _ _ _ _ n n c _) ?_
          rintro e y3 ⟨rfl, s3⟩
          have p0 := s3.cell p0
          have p1 := s3.cell p1
          have p2 := s3.cell p2
          have ka0 := s3.cell ka0
          have ka1 := s3.cell ka1
          have ka2 := s3.cell ka2
          have kb0 := s3.cell kb0
          have kb1 := s3.cell kb1
          have kb2 := s3.cell kb2
          have kc0 := s3.cell kc0
          have kc1 := s3.cell kc1
          have kc2 := s3.cell kc2
          have kd0 := s3.cell kd0
          have kd1 := s3.cell kd1
          have kd2 := s3.cell kd2
          have ku0 := s3.cell ku0
          have ku1 := s3.cell ku1
          have ku2 := s3.cell ku2
          have kv0 := s3.cell kv0
          have kv1 := s3.cell kv1
          have kv2 := s3.cell kv2
          replace HSv : Hid (Q zv y3) := HSv.out.trans s3
          clear s3
          go_wp2_with fail
          refine Calls.mono (sized_yes _ _ _ _ n n c _) ?_
          rintro e y4 ⟨rfl, s4⟩
          have p0 := s4.cell p0
          have p1 := s4.cell p1
          have p2 := s4.cell p2
          have ka0 := s4.cell ka0
          have ka1 := s4.cell ka1
          have ka2 := s4.cell ka2
          have kb0 := s4.cell kb0
          have kb1 := s4.cell kb1
          have kb2 := s4.cell kb2
          have kc0 := s4.cell kc0
          have kc1 := s4.cell kc1
          have kc2 := s4.cell kc2
          have kd0 := s4.cell kd0
          have kd1 := s4.cell kd1
          have kd2 := s4.cell kd2
          have ku0 := s4.cell ku0
          have ku1 := s4.cell ku1
          have ku2 := s4.cell ku2
          have kv0 := s4.cell kv0
          have kv1 := s4.cell kv1
          have kv2 := s4.cell kv2
          replace HSv : Hid (Q zv y4) := HSv.out.trans s4
          clear s4
          go_wp2_with fail
          refine Calls.mono (sized_yes _ _ _ _ n n c _) ?_
          rintro e y5 ⟨rfl, s5⟩
          have p0 := s5.cell p0
          have p1 := s5.cell p1
          have p2 := s5.cell p2
          have ka0 := s5.cell ka0
          have ka1 := s5.cell ka1
          have ka2 := s5.cell ka2
          have kb0 := s5.cell kb0
          have kb1 := s5.cell kb1
          have kb2 := s5.cell kb2
          have kc0 := s5.cell kc0
          have kc1 := s5.cell kc1
          have kc2 := s5.cell kc2
          have kd0 := s5.cell kd0
          have kd1 := s5.cell kd1
          have kd2 := s5.cell kd2
          have ku0 := s5.cell ku0
          have ku1 := s5.cell ku1
          have ku2 := s5.cell ku2
          have kv0 := s5.cell kv0
          have kv1 := s5.cell kv1
          have kv2 := s5.cell kv2
          replace HSv : Hid (Q zv y5) := HSv.out.trans s5
          clear s5
          go_wp2_with fail
          go_meet
          case rel => exact ⟨rfl, HSv⟩
        case rest =>
          obtain ⟨rfl, HSw⟩ := hcut
          have p0 := HSw.out.cell p0
          have p1 := HSw.out.cell p1
          have p2 := HSw.out.cell p2
          have ka0 := HSw.out.cell ka0
          have ka1 := HSw.out.cell ka1
          have ka2 := HSw.out.cell ka2
          have kb0 := HSw.out.cell kb0
          have kb1 := HSw.out.cell kb1
          have kb2 := HSw.out.cell kb2
          have kc0 := HSw.out.cell kc0
          have kc1 := HSw.out.cell kc1
          have kc2 := HSw.out.cell kc2
          have kd0 := HSw.out.cell kd0
          have kd1 := HSw.out.cell kd1
          have kd2 := HSw.out.cell kd2
          have ku0 := HSw.out.cell ku0
          have ku1 := HSw.out.cell ku1
          have ku2 := HSw.out.cell ku2
          have kv0 := HSw.out.cell kv0
          have kv1 := HSw.out.cell kv1
          have kv2 := HSw.out.cell kv2
          have HCy : Hid (wc.cell? ⟨bp, 0, none⟩ = some (.int .i64 (pa : Int)) ∧ wc.cell? ⟨bp, 1, none⟩ = some (.int .i64 (pb : Int)) ∧ wc.cell? ⟨bp, 2, none⟩ = some (.slice (some ⟨gs, os, none⟩) n c) ∧ wc.cell? ⟨Ba, 2, none⟩ = some (.slice (some ⟨ga, 0, none⟩) n n) ∧ wc.cell? ⟨Bb, 2, none⟩ = some (.slice (some ⟨gb, 0, none⟩) n n) ∧ wc.cell? ⟨Bc, 2, none⟩ = some (.slice (some ⟨gc, 0, none⟩) n n) ∧ wc.cell? ⟨Bd, 2, none⟩ = some (.slice (some ⟨gd, 0, none⟩) n n) ∧ wc.cell? ⟨Bu, 2, none⟩ = some (.slice (some ⟨gu, 0, none⟩) n n) ∧ wc.cell? ⟨Bv, 2, none⟩ = some (.slice (some ⟨gv, 0, none⟩) n n)) := ⟨p0, p1, p2, ka2, kb2, kc2, kd2, ku2, kv2⟩
          have HIS : Hid (Q zv wc) := HSw.out
          clear ka0 ka1 ka2 kb0 kb1 kb2 kc0 kc1 kc2 kd0 kd1 kd2 ku0 ku1 ku2 kv0 kv1 kv2 p0 p1
          go_wp2_with fail
          clear p2
          go_loopg [31] n (fun mm' s31 wr => ∃ i : Nat, s31 = .int .i64 (i : Int) ∧ i + mm' = n ∧ Hid (Q wc wr))
          case atStart => exact ⟨0, rfl, by omega, Q.refl _⟩
          case round =>
            obtain ⟨i, rfl, him, HX⟩ := hrel
            have p2 := HX.out.cell HCy.out.2.2.1
            by_cases hil : i < n
            · have hil' : (i : Int) < (n : Int) := by omega
              go_wp2_with fail
              have ja := HX.out.cell HCy.out.2.2.2.1
              have jb := HX.out.cell HCy.out.2.2.2.2.1
              have jc := HX.out.cell HCy.out.2.2.2.2.2.1
              have jd := HX.out.cell HCy.out.2.2.2.2.2.2.1
              have ju := HX.out.cell HCy.out.2.2.2.2.2.2.2.1
              have jv := HX.out.cell HCy.out.2.2.2.2.2.2.2.2
              have hnn : n = pa * pb := HZ.out.2.1
              have hip : i < pa * pb := by omega
              have hR := rises_all (bd := b) cB HZ.out.2.2.1 (HU.out.2.1.trans hnn) HU.out.2.2.1 HO.out.2.2.1 HZ.out.2.2.2.2.1 HZ.out.2.2.2.2.2.2.1 HZ.out.2.2.2.2.2.2.2.2.1 HZ.out.2.2.2.2.2.2.2.2.2 HB.out hip
              have qzx : Q zv wr := HIS.out.trans HX.out
              have cs := qzx.cell (HUv.out.1 i (by rw [HU.out.2.1]; exact hil))
              have ca := qzx.cell (HUv.out.2.1 i (by rw [rnkL_len]; exact hip))
              have cb := qzx.cell (HUv.out.2.2.1 i (by rw [rnkL_len]; exact hip))
              have cc := qzx.cell (HUv.out.2.2.2.1 i (by rw [rnkL_len]; exact hip))
              have cd := qzx.cell (HUv.out.2.2.2.2.1 i (by rw [rnkL_len]; exact hip))
              have cu := qzx.cell (HUv.out.2.2.2.2.2.1 i (by rw [rnkL_len]; exact hip))
              have cv := qzx.cell (HUv.out.2.2.2.2.2.2 i (by rw [rnkL_len]; exact hip))
              have ea : Sam ((rnkL S pa pb b wa ha kk).getD i 0) := rnkL_lt HU.out.2.2.1 HZ.out.2.2.2.2.2.2.2.2.1 i
              have eb : Sam ((rnkL S pa pb b wa ha mm).getD i 0) := rnkL_lt HU.out.2.2.1 HZ.out.2.2.2.2.2.2.2.2.2 i
              have ec : Sam ((rnkL (selL cB A S) pa pb b wa ha kk).getD i 0) := rnkL_lt (HSL.out _) HZ.out.2.2.2.2.2.2.2.2.1 i
              have ed : Sam ((rnkL (selL (fun j => !cB j) A S) pa pb b wa ha kk).getD i 0) := rnkL_lt (HSL.out _) HZ.out.2.2.2.2.2.2.2.2.1 i
              have eu : Sam ((rnkL S pa pb b wa ha 0).getD i 0) := rnkL_lt HU.out.2.2.1 (Nat.mul_pos HZ.out.2.2.2.2.1 HZ.out.2.2.2.2.2.2.1) i
              have ev : Sam ((rnkL S pa pb b wa ha (wa * ha - 1)).getD i 0) := rnkL_lt HU.out.2.2.1 (by have := Nat.mul_pos HZ.out.2.2.2.2.1 HZ.out.2.2.2.2.2.2.1; omega) i
              have es : Sam (S.getD i 0) := HU.out.2.2.1 i
              obtain ⟨⟨j0, hj0, hj1⟩, r1', r2', r3', r4', r5'⟩ := hR
              have HMp : Hid (Mp zv bm n (fun u => ∃ j, j < n ∧ S.getD j 0 = u) ∧ j0 < n ∧ Q zv wr) := ⟨HMv.out, by omega, qzx⟩
              generalize S.getD i 0 = s0 at cs es r4' r5'
              generalize (rnkL S pa pb b wa ha kk).getD i 0 = sa at *
              generalize (rnkL S pa pb b wa ha mm).getD i 0 = sb at *
              generalize (rnkL (selL cB A S) pa pb b wa ha kk).getD i 0 = sc at *
              generalize (rnkL (selL (fun j => !cB j) A S) pa pb b wa ha kk).getD i 0 = sd at *
              generalize (rnkL S pa pb b wa ha 0).getD i 0 = su at *
              generalize (rnkL S pa pb b wa ha (wa * ha - 1)).getD i 0 = sv at *
              rw [Nat.zero_add] at ca cb cc cd cu cv
              have hLk : ∀ x, Q wr x → (Instr.lookup 37 (.map (some bm)) (.int .u32 (sa : Int)) false).run Try.prog x = .ok (.int .i64 1) x := fun x q => Mp.look (Mp.same HMp.out.1 ((HMp.out.2.2.trans q).1.block bm (Mp.lt HMp.out.1))) ea ⟨j0, HMp.out.2.1, hj1⟩
              by_cases hle : kk ≤ mm
              · by_cases hge2 : mm ≤ kk
                · refine regionRkRx (l := _) rfl rfl ⟨rfl, rfl, rfl, rfl, rfl, rfl, rfl, rfl, rfl, rfl, rfl, ja, jb, jc, jd, ju, jv, p2, ca, cb, cc, cd, cu, cv, cs, ea, eb, ec, ed, eu, ev, es, hil, hLk, hle, hge2, Nat.le_antisymm (r1' hle) (r2' hge2), r3', r4', r5'⟩ ?_
                  intro w4 hw'
                  rw [normRkRx]
                  have HQ4 : Hid (Q wc w4) := HX.out.trans hw'
                  clear hw' hLk HX HMp hj1 hj0 hip hnn qzx p2 cs es r1' r2' r3' r4' r5' hle hge2 ja ca ea jb cb eb jc cc ec jd cd ed ju cu eu jv cv ev
                  go_wp2_with fail
                  go_roundg (n - (i + 1))
                  case measure => go_light; omega
                  case rel => go_light; exact ⟨i + 1, by go_num, by omega, HQ4⟩
                · refine regionRkRy (l := _) rfl rfl ⟨rfl, rfl, rfl, rfl, rfl, rfl, rfl, rfl, rfl, rfl, rfl, ja, jb, jc, jd, ju, jv, p2, ca, cb, cc, cd, cu, cv, cs, ea, eb, ec, ed, eu, ev, es, hil, hLk, hle, (Nat.lt_of_not_le hge2), (r1' hle), r3', r4', r5'⟩ ?_
                  intro w4 hw'
                  rw [normRkRy]
                  have HQ4 : Hid (Q wc w4) := HX.out.trans hw'
                  clear hw' hLk HX HMp hj1 hj0 hip hnn qzx p2 cs es r1' r2' r3' r4' r5' hle hge2 ja ca ea jb cb eb jc cc ec jd cd ed ju cu eu jv cv ev
                  go_wp2_with fail
                  go_roundg (n - (i + 1))
                  case measure => go_light; omega
                  case rel => go_light; exact ⟨i + 1, by go_num, by omega, HQ4⟩
              · have hge2 : mm ≤ kk := by omega
                refine regionRkRz (l := _) rfl rfl ⟨rfl, rfl, rfl, rfl, rfl, rfl, rfl, rfl, rfl, rfl, rfl, ja, jb, jc, jd, ju, jv, p2, ca, cb, cc, cd, cu, cv, cs, ea, eb, ec, ed, eu, ev, es, hil, hLk, (Nat.lt_of_not_le hle), hge2, (r2' hge2), r3', r4', r5'⟩ ?_
                intro w4 hw'
                rw [normRkRz]
                have HQ4 : Hid (Q wc w4) := HX.out.trans hw'
                clear hw' hLk HX HMp hj1 hj0 hip hnn qzx p2 cs es r1' r2' r3' r4' r5' hle hge2 ja ca ea jb cb eb jc cc ec jd cd ed ju cu eu jv cv ev
                go_wp2_with fail
                go_roundg (n - (i + 1))
                case measure => go_light; omega
                case rel => go_light; exact ⟨i + 1, by go_num, by omega, HQ4⟩
            · have hge2 : ¬ (i : Int) < (n : Int) := by omega
              have p0 := HX.out.cell HCy.out.1
              have p1 := HX.out.cell HCy.out.2.1
              have HEw : Hid (Q zv wr) := HIS.out.trans HX.out
              go_wp2_with fail
              refine Calls.mono (HC1.out _ (HUv.out.1.next HEw.out)) ?_
              rintro e xf ⟨gf, rfl, ⟨huf, _, _, _⟩, rf⟩
              obtain ⟨zf, hzf⟩ : ∃ zf, xf.alloc (.cells #[.int .i64 (pa : Int), .int .i64 (pb : Int), .slice (some ⟨gf, 0, none⟩) n n] 24) = zf := ⟨_, rfl⟩
              have hqf : Qb xf zf := by rw [← hzf]; exact (Qb.refl xf).alloc _
              obtain ⟨Bf, hBf⟩ : ∃ Bf, xf.heap.size = Bf := ⟨_, rfl⟩
              have t0 : zf.cell? ⟨xf.heap.size, 0, none⟩ = some (.int .i64 (pa : Int)) := by rw [← hzf]; simp [go_sem]
              have t1 : zf.cell? ⟨xf.heap.size, 1, none⟩ = some (.int .i64 (pb : Int)) := by rw [← hzf]; simp [go_sem]
              have t2 : zf.cell? ⟨xf.heap.size, 2, none⟩ = some (.slice (some ⟨gf, 0, none⟩) n n) := by rw [← hzf]; simp [go_sem]
              rw [hBf] at t0 t1 t2
              have hqx : Qb wr zf := rf.trans hqf
              have p0 := hqx.cell p0
              have p1 := hqx.cell p1
              have p2 := hqx.cell p2
              have HEz : Hid (Qb W0 zf) := HWv.out.trans (HEw.out.qb.trans hqx)
              have HFu : Hid (USl zf (.slice (some ⟨gf, 0, none⟩) n n) S ∧ USl zf (.slice (some ⟨gs, os, none⟩) n c) S) := by
                have h1 := (huf.nextB hqf).usl (cap := n) (by rw [HU.out.2.1]; exact Nat.le_refl _)
                rw [HU.out.2.1] at h1
                exact ⟨h1, HU.out.1.nextB HEz.out⟩
              clear huf rf hqf hqx
              go_wp2_with fail
              clear hzf hBf
              refine Calls.mono (hplanes_yes (pa : Int) (pb : Int) (some ⟨gf, 0, none⟩) (some ⟨gs, os, none⟩) n n c S zf HFu.out.1 HFu.out.2 (by rw [HU.out.2.1]; omega)) ?_
              rintro e zg ⟨rfl, qg⟩
              have HEND : Hid (Qb W0 zg) := HEz.out.trans qg.qb
              clear qg
              go_wp2_with fail
              go_ret
              exact ⟨rfl, HEND.out⟩
  · have C1 : Hid _ := fun x q => rplane_any pw ph ad n c S bd W H k x (HU.out.1.nextB q) HU.out.2.1 HU.out.2.2.1 HU.out.2.2.2
    have C2 : Hid _ := fun x q => rplane_any pw ph ad n c S bd W H m x (HU.out.1.nextB q) HU.out.2.1 HU.out.2.2.1 HU.out.2.2.2
    refine Calls.mono (C1.out _ HQ3.out) ?_
    rintro e xa ⟨a1, b1, ad1, m1, cc1, E1, rfl, D1⟩
    obtain ⟨za, hza⟩ : ∃ za, xa.alloc (.cells #[.int .i64 a1, .int .i64 b1, .slice ad1 m1 cc1] 24) = za := ⟨_, rfl⟩
    have hqa : Qb w3 za := D1.q.trans (by rw [← hza]; exact (Qb.refl xa).alloc _)
    have HE1 : Hid (E1 = rkE pw ph n bd W H k) := D1.e
    have HBa : Hid (Qb W0 za) := HQ3.out.trans hqa
    have p0 := hqa.cell p0
    have p1 := hqa.cell p1
    have p2 := hqa.cell p2
    clear D1 hqa
    go_wp2_with fail
    clear hza
    refine Calls.mono (C2.out _ HBa.out) ?_
    rintro e xb ⟨a2, b2, ad2, m2, cc2, E2, rfl, D2⟩
    obtain ⟨zb, hzb⟩ : ∃ zb, xb.alloc (.cells #[.int .i64 a2, .int .i64 b2, .slice ad2 m2 cc2] 24) = zb := ⟨_, rfl⟩
    have HE2 : Hid (E2 = rkE pw ph n bd W H m) := D2.e
    have HBb : Hid (Qb W0 zb) := HBa.out.trans (D2.q.trans (by rw [← hzb]; exact (Qb.refl xb).alloc _))
    clear D2
    have HEE : Hid (¬ (E1 = 0 ∧ E2 = 0)) := by rw [HE1.out, HE2.out]; exact hE
    clear hE p0 p1 p2
    by_cases h1 : E1 = 0
    · subst h1
      have h2 : (E2 != 0) = true := by simp only [bne_iff_ne]; exact fun h => HEE.out ⟨rfl, h⟩
      go_wp2_with fail
      go_ret
      exact ⟨rfl, HBb.out⟩
    · have h2 : (E1 != 0) = true := by simp only [bne_iff_ne]; exact h1
      clear h1
      go_wp2_with fail
      go_ret
      exact ⟨rfl, HBb.out⟩
end Go.Proofs.Ytikhmlcmmabapaa
