/- The statement RankTurned: its walk. -/
import Derived.Test.YtdfdbamopeocjaaG9c63ca53
namespace Go.Proofs.Ytdfdbamopeocjaa
open Go.RowKit
set_option linter.unusedVariables false
set_option linter.unusedSimpArgs false

set_option maxHeartbeats 8000000 in
set_option maxRecDepth 100000 in
theorem rturn_walk (W0 : World) (pw ph bd W H k : Int) (lo hi : Nat) (dp : Int) (sv : Value) (S : List Nat) (us : USl W0 sv S) (hSb : ∀ i, S.getD i 0 < 4294967296) (hml : S.length ≤ 9223372036854775807) (hlo : lo < 4294967296) (hhi : hi < 4294967296) :
    Calls Try.prog 8 #[.agg #[.int .i64 pw, .int .i64 ph, sv], .int .i64 bd, .int .i64 W, .int .i64 H, .int .i64 k, .int .u32 (lo : Int), .int .u32 (hi : Int), .int .i64 dp] W0 fun e w' => e = .returned (.bool true) ∧ Qb W0 w' := by
  obtain ⟨ad, c, rfl⟩ := us.form
  obtain ⟨n, hn⟩ : ∃ n, S.length = n := ⟨_, rfl⟩
  rw [hn] at us hml
  rw [hn]
  obtain ⟨w1, hw1⟩ : ∃ w1, W0.alloc (.cells #[.int .i64 pw, .int .i64 ph, .slice ad n c] 25) = w1 := ⟨_, rfl⟩
  have q1 : Q W0 w1 := by rw [← hw1]; exact (Q.refl W0).cells _ _
  have p0 : w1.cell? ⟨W0.heap.size, 0, none⟩ = some (.int .i64 pw) := by rw [← hw1]; simp [go_sem]
  have p1 : w1.cell? ⟨W0.heap.size, 1, none⟩ = some (.int .i64 ph) := by rw [← hw1]; simp [go_sem]
  have p2 : w1.cell? ⟨W0.heap.size, 2, none⟩ = some (.slice ad n c) := by rw [← hw1]; simp [go_sem]
  obtain ⟨bp, hbp⟩ : ∃ bp, W0.heap.size = bp := ⟨_, rfl⟩
  rw [hbp] at p0 p1 p2
  have HK : Hid _ := fun x => known12_any x
  have HM : Hid _ := fun x => small12_any pw ph ad n c x
  have HU : Hid (USl W0 (.slice ad n c) S ∧ S.length = n ∧ (∀ i, S.getD i 0 < 4294967296) ∧ n ≤ 9223372036854775807) := ⟨us, hn, hSb, hml⟩
  have HLH : Hid (lo < 4294967296 ∧ hi < 4294967296) := ⟨hlo, hhi⟩
  have HQ1 : Hid (Qb W0 w1) := q1.qb
  clear us hn hSb hml q1 hlo hhi
  go_enter Try.func8, Try.ntmps8
  go_wp2_with fail
  clear hw1 hbp
  refine Calls.mono (HK.out _) ?_
  rintro e w2 ⟨rfl, q2⟩
  have p0 := q2.cell p0
  have p1 := q2.cell p1
  have p2 := q2.cell p2
  have HQ2 : Hid (Qb W0 w2) := HQ1.out.trans q2
  clear q2
  go_wp2_with fail
  refine Calls.mono (HM.out _) ?_
  rintro e w3 ⟨rfl, q3⟩
  have p0 := q3.cell p0
  have p1 := q3.cell p1
  have p2 := q3.cell p2
  have HQ3 : Hid (Qb W0 w3) := HQ2.out.trans q3.qb
  clear q3
  cases smlR pw ph n
  · go_wp2_with fail
    go_ret
    exact ⟨rfl, HQ3.out⟩
  · go_wp2_with fail
    by_cases hE : rkE pw ph n bd W H k = 0
    · obtain ⟨pa, pb, b, wa, ha, kk, rfl, rfl, rfl, rfl, rfl, rfl, hsz, hnn, hb, a1, a2, b1, b2, hkk⟩ := rkE_ok hE
      obtain ⟨gs, os, cs, hv, hcs, hUI⟩ := HU.out.1.some (by rw [HU.out.2.1, hnn]; exact hsz.pos)
      rw [HU.out.2.1] at hv hcs
      injection hv with hv1 _ hv2
      subst hv1 hv2
      have HG : Hid ((∀ x, Qb W0 x → UIs x gs os S) ∧ gs < W0.heap.size) := ⟨fun x q => hUI.nextB q, World.block_lt_of_cell? _ _ (hUI 0 (by rw [HU.out.2.1, hnn]; exact hsz.pos))⟩
      have HZ : Hid (n ≤ c ∧ n = pa * pb ∧ Size pa pb ∧ (b = 1 ∨ b = 2 ∨ b = 3) ∧ 1 ≤ wa ∧ wa ≤ 15 ∧ 1 ≤ ha ∧ ha ≤ 15 ∧ kk < wa * ha) := ⟨hcs, hnn, hsz, hb, a1, a2, b1, b2, hkk⟩
      have HC : Hid (∀ (x : World) (g o cc : Nat) (L : List Nat) (k' : Nat), UIs x g o L → n ≤ cc → L.length = n → (∀ i, L.getD i 0 < 4294967296) → k' < wa * ha → Calls Try.prog 13 #[.agg #[.int .i64 (pa : Int), .int .i64 (pb : Int), .slice (some ⟨g, o, none⟩) n cc], .int .i64 (b : Int), .int .i64 (wa : Int), .int .i64 (ha : Int), .int .i64 (k' : Int)] x (Rgd x pa pb n (rnkL L pa pb b wa ha k'))) := fun x g o cc L k' h1 h2 h3 h4 h5 => plane_gd h1 h2 h3 hnn h4 hsz hb a1 a2 b1 b2 h5
      have hn1 : 1 ≤ n := by rw [hnn]; exact hsz.pos
      have hn2 : n ≤ 65536 := by rw [hnn]; exact hsz.ab
      obtain ⟨wh, hwh⟩ : ∃ wh, wa * ha = wh := ⟨_, rfl⟩
      have ewh : (wa : Int) * (ha : Int) = (wh : Int) := by rw [← Int.natCast_mul, hwh]
      have hwb : wh ≤ 225 := by rw [← hwh]; exact Nat.mul_le_mul a2 b2
      obtain ⟨k2, hk2⟩ : ∃ k2, k2 + kk + 1 = wh := ⟨wh - 1 - kk, by omega⟩
      have ek2 : (wh : Int) - 1 - (kk : Int) = (k2 : Int) := by omega
      have HWH : Hid (wa * ha = wh ∧ k2 + kk + 1 = wh) := ⟨hwh, hk2⟩
      obtain ⟨t, dr, ht, ht1, ht2, hdr, hdr2⟩ := drop_rem dp
      clear hE hnn hsz hb a1 a2 b1 b2 hkk hcs hUI hwh hk2
      refine Calls.mono (HC.out _ gs os c S kk (HG.out.1 _ HQ3.out) HZ.out.1 HU.out.2.1 HU.out.2.2.1 HZ.out.2.2.2.2.2.2.2.2) ?_
      rintro e xa ⟨ga, rfl, ⟨hua, _, _, _⟩, ra⟩
      obtain ⟨za, hza⟩ : ∃ za, xa.alloc (.cells #[.int .i64 (pa : Int), .int .i64 (pb : Int), .slice (some ⟨ga, 0, none⟩) n n] 25) = za := ⟨_, rfl⟩
      have hqa : Qb xa za := by rw [← hza]; exact (Qb.refl xa).alloc _
      have HLa : Hid (UIs za ga 0 (rnkL S pa pb b wa ha kk) ∧ za.cell? ⟨xa.heap.size, 0, none⟩ = some (.int .i64 (pa : Int)) ∧ za.cell? ⟨xa.heap.size, 1, none⟩ = some (.int .i64 (pb : Int)) ∧ za.cell? ⟨xa.heap.size, 2, none⟩ = some (.slice (some ⟨ga, 0, none⟩) n n)) := ⟨hua.nextB hqa, by rw [← hza]; simp [go_sem], by rw [← hza]; simp [go_sem], by rw [← hza]; simp [go_sem]⟩
      have HBa : Hid (Qb W0 za ∧ Qb w3 za) := ⟨Qb.trans HQ3.out (ra.trans hqa), ra.trans hqa⟩
      have p0 := HBa.out.2.cell p0
      have p1 := HBa.out.2.cell p1
      have p2 := HBa.out.2.cell p2
      clear hua ra hqa
      go_wp2_with fail
      clear hza
      refine regionCp (pw := (pa : Int)) (ph := (pb : Int)) (ad := some ⟨gs, os, none⟩) (n := n) (c := c) (b5 := bp) (S := S) rfl rfl ⟨rfl, p0, p1, p2, fun x q => hcopy_cp (pa : Int) (pb : Int) (some ⟨gs, os, none⟩) n c S x (HU.out.1.nextB (HBa.out.1.trans q.qb)) HU.out.2.1 (by omega)⟩ ?_
      intro wb a1 c1 a2 c2 g1 g2 HT
      rw [normCp]
      rcases HT.two with h0 | ⟨r1, r2, rfl, rfl, e1, e2, e3, e4, e5, e6, e7, e8, e9, e10, e11⟩
      · omega
      have HB0 : Hid (bp < za.heap.size ∧ gs < za.heap.size) := ⟨World.block_lt_of_cell? za ⟨bp, 0, none⟩ p0, Nat.lt_of_lt_of_le HG.out.2 HBa.out.1.sz⟩
      obtain ⟨f1, hf1⟩ : ∃ f1 : Nat → Nat, turnN = f1 := ⟨_, rfl⟩
      obtain ⟨f2, hf2⟩ : ∃ f2 : Nat → Nat, (fun s => rsN s lo hi dr) = f2 := ⟨_, rfl⟩
      have HF : Hid (turnN = f1 ∧ (fun s => rsN s lo hi dr) = f2) := ⟨hf1, hf2⟩
      have HT0 : Hid (Tw za wb g1 g2 r1 r2 pa pb n c1 c2 (mapK f1 S 0) (mapK f2 S 0)) := by
        have z : ∀ (f : Nat → Nat) j, mapK f S 0 j = S.getD j 0 := fun f j => by unfold mapK; rw [if_neg (by omega)]
        refine ⟨HT.q.qb, HT.c10, HT.c11, HT.c12, HT.c20, HT.c21, HT.c22, ⟨fun i hj => ?_, e10⟩, ⟨fun i hj => ?_, e11⟩, e3, e4, e5, e6, e7, e1, e2⟩
        · rw [z]; have := e8 i (by rw [HU.out.2.1]; exact hj); rw [Nat.zero_add] at this; exact this
        · rw [z]; have := e9 i (by rw [HU.out.2.1]; exact hj); rw [Nat.zero_add] at this; exact this
      have HCC : Hid (n ≤ c1 ∧ n ≤ c2) := ⟨HT.k1, HT.k2⟩
      have HPZ : Hid (za.cell? ⟨bp, 0, none⟩ = some (.int .i64 (pa : Int)) ∧ za.cell? ⟨bp, 1, none⟩ = some (.int .i64 (pb : Int)) ∧ za.cell? ⟨bp, 2, none⟩ = some (.slice (some ⟨gs, os, none⟩) n c)) := ⟨p0, p1, p2⟩
      clear HT e1 e2 e3 e4 e5 e6 e7 e8 e9 e10 e11 hf1 hf2 p0 p1 p2
      have p2 := HT0.out.q.cell HPZ.out.2.2
      go_wp2_with fail
      clear p2
      go_loopg [21] n (fun m s21 wr => ∃ i : Nat, s21 = .int .i64 (i : Int) ∧ i + m = n ∧ Hid (Tw za wr g1 g2 r1 r2 pa pb n c1 c2 (mapK f1 S i) (mapK f2 S i)))
      case atStart => exact ⟨0, rfl, by omega, HT0⟩
      case round =>
        clear HT0
        obtain ⟨i, rfl, hin, HT⟩ := hrel
        by_cases hlt : i < n
        · have hlt' : (i : Int) < (n : Int) := by omega
          have p2 := HT.out.q.cell HPZ.out.2.2
          have hlim : i ≤ 65536 := by omega
          go_wp2_with fail
          have hcl := (HG.out.1 wr (HBa.out.1.trans HT.out.q)) i (by rw [HU.out.2.1]; exact hlt)
          have hsb := HU.out.2.2.1 i
          obtain ⟨s, hs⟩ : ∃ s, S.getD i 0 = s := ⟨_, rfl⟩
          rw [hs] at hcl hsb
          have hx := xor_turn hsb
          have e1 : turnN s = f1 s := by rw [HF.out.1]
          have e2 : rsN s lo hi dr = f2 s := by rw [← HF.out.2]
          rw [e1] at hx
          have HRs : Hid (∀ x, Calls Try.prog 28 #[.int .u32 (s : Int), .int .u32 (lo : Int), .int .u32 (hi : Int), .int .i64 (dr : Int)] x fun e w' => e = .returned (.int .u32 ((f2 s : Nat) : Int)) ∧ w' = x) := fun x => by rw [← e2]; exact rises_any s lo hi dr hsb HLH.out.1 HLH.out.2 hdr2 x
          obtain ⟨D, hD⟩ : ∃ D : World → Prop, (fun z : World => z.cell? ⟨bp, 2, none⟩ = some (.slice (some ⟨gs, os, none⟩) n c) ∧ z.cell? ⟨g1, 2, none⟩ = some (.slice (some ⟨r1, 0, none⟩) n c1) ∧ z.cell? ⟨g2, 2, none⟩ = some (.slice (some ⟨r2, 0, none⟩) n c2) ∧ z.cell? ⟨gs, os + i, none⟩ = some (.int .u32 (s : Int))) = D := ⟨_, rfl⟩
          have D0 : D wr.drew := by rw [← hD]; exact ⟨p2, HT.out.c12, HT.out.c22, hcl⟩
          have n0 := cw_some (D := D) D0
          have hDz : ∀ z, D z → z.cell? ⟨bp, 2, none⟩ = some (.slice (some ⟨gs, os, none⟩) n c) ∧ z.cell? ⟨g1, 2, none⟩ = some (.slice (some ⟨r1, 0, none⟩) n c1) ∧ z.cell? ⟨g2, 2, none⟩ = some (.slice (some ⟨r2, 0, none⟩) n c2) ∧ z.cell? ⟨gs, os + i, none⟩ = some (.int .u32 (s : Int)) := fun z hz => by rw [← hD] at hz; exact hz
          have f0 := fun n : CW D => (hDz _ n.h).1
          have f01 := fun n : CW D => (hDz _ n.h).2.1
          have f02 := fun n : CW D => (hDz _ n.h).2.2.1
          have f03 := fun n : CW D => (hDz _ n.h).2.2.2
          have HDD : Hid ((fun z : World => z.cell? ⟨bp, 2, none⟩ = some (.slice (some ⟨gs, os, none⟩) n c) ∧ z.cell? ⟨g1, 2, none⟩ = some (.slice (some ⟨r1, 0, none⟩) n c1) ∧ z.cell? ⟨g2, 2, none⟩ = some (.slice (some ⟨r2, 0, none⟩) n c2) ∧ z.cell? ⟨gs, os + i, none⟩ = some (.int .u32 (s : Int))) = D) := hD
          have HSS : Hid (S.getD i 0 = s) := hs
          clear hD hs e1 e2 hDz
          refine wp_region_mkP [0, 1, 2, 3, 4, 5, 6, 7, 8, 9, 10, 11, 12, 13, 14, 15, 16, 17, 18, 19] [[20, 21, 22, 23, 24]] 5 _ D (by kernel_rfl) (by kernel_rfl) rfl (by kernel_rfl) D0 ?_
          simp only [List.filterMap_cons, List.filterMap_nil, List.getElem?_cons_zero, List.getElem?_cons_succ]
          repeat (first | go_big_quiet_step (fail) | quiet_step (fail))
          refine wpQuiet_nil ?_
          clear f0 f01 f02 f03 n0
          have T5 := HT.out.drew
          refine tree_call 20 (by kernel_rfl) rfl (run_fn 28 #[.tmp 74, .tmp 75, .tmp 76, .tmp 77] _ rfl (fun _ _ => rfl) (vs := #[.int .u32 (s : Int), .int .u32 (lo : Int), .int .u32 (hi : Int), .int .i64 (dr : Int)]) (by kernel_rfl)) (G := fun v x' => v = .int .u32 ((f2 s : Nat) : Int) ∧ x' = wr.drew) ((HRs.out wr.drew).mono fun e x' h => ⟨_, h.1, rfl, h.2⟩) ?_
          rintro vq z6 ⟨rfl, hz6⟩
          obtain rfl := hz6.symm
          refine ⟨D0, ?_⟩
          refine tree_run 21 (by kernel_rfl) rfl (v := .pointer (some ⟨r1, i, none⟩)) (x' := wr.drew) (run_ixr (Lw := n) (cap := c1) (by kernel_rfl) (by kernel_rfl) hlt) D0 ?_
          have T6 := T5.put1 (G := mapK f1 S (i + 1)) hlt (mapK_new.trans (by rw [HSS.out])) mapK_step
          have lr1 := T5.l1
          have lb := HB0.out.1
          have lg := HB0.out.2
          have D1 : D (wr.drew.setCell ⟨r1, i, none⟩ (.int .u32 ((f1 s : Nat) : Int))) := by
            rw [← HDD.out] at D0 ⊢
            exact ⟨cell_other (by omega) D0.1, T6.c12, T6.c22, cell_other (by omega) D0.2.2.2⟩
          refine tree_skip 22 (by kernel_rfl) rfl (x' := wr.drew.setCell ⟨r1, i, none⟩ (.int .u32 ((f1 s : Nat) : Int))) (run_str (i := i) (by kernel_rfl) (by kernel_rfl) (T5.v1.cell i hlt) (T5.v1.free i)) D1 ?_
          refine tree_run 23 (by kernel_rfl) rfl (v := .pointer (some ⟨r2, i, none⟩)) (x' := wr.drew.setCell ⟨r1, i, none⟩ (.int .u32 ((f1 s : Nat) : Int))) (run_ixr (Lw := n) (cap := c2) (by kernel_rfl) (by kernel_rfl) hlt) D1 ?_
          have T7 : Hid (Tw za ((wr.drew.setCell ⟨r1, i, none⟩ (.int .u32 ((f1 s : Nat) : Int))).setCell ⟨r2, i, none⟩ (.int .u32 ((f2 s : Nat) : Int))) g1 g2 r1 r2 pa pb n c1 c2 (mapK f1 S (i + 1)) (mapK f2 S (i + 1))) := T6.put2 (G := mapK f2 S (i + 1)) hlt (mapK_new.trans (by rw [HSS.out])) mapK_step
          refine tree_skipF 24 (by kernel_rfl) rfl (by kernel_rfl) (x' := (wr.drew.setCell ⟨r1, i, none⟩ (.int .u32 ((f1 s : Nat) : Int))).setCell ⟨r2, i, none⟩ (.int .u32 ((f2 s : Nat) : Int))) (run_str (i := i) (by kernel_rfl) (by kernel_rfl) (T6.v2.cell i hlt) (T6.v2.free i)) ?_
          refine tree_nil ?_
          generalize (wr.drew.setCell ⟨r1, i, none⟩ (.int .u32 ((f1 s : Nat) : Int))).setCell ⟨r2, i, none⟩ (.int .u32 ((f2 s : Nat) : Int)) = z9 at T7 ⊢
          clear T5 T6 D0 D1 HT p2 hcl
          go_wp2_with fail
          go_roundg (n - (i + 1))
          case measure => go_light; omega
          case rel => go_light; exact ⟨i + 1, by go_num, by omega, T7⟩
        · obtain rfl : n = i := by omega
          have hge : ¬ (n : Int) < (n : Int) := by omega
          have p2 := HT.out.q.cell HPZ.out.2.2
          have d0 := HT.out.c10
          have d1 := HT.out.c11
          have d2 := HT.out.c12
          go_wp2_with fail
          have HWL : Hid (∀ f : Nat → Nat, (S.map f).length = n) := fun f => by rw [List.length_map]; exact HU.out.2.1
          refine Calls.mono (HC.out _ r1 0 c1 (S.map f1) k2 (mapK_all HU.out.2.1 HT.out.v1) HCC.out.1 (HWL.out _) (map_lt HU.out.2.2.1 (fun s h => by rw [← HF.out.1]; exact turnN_lt h)) (by rw [HWH.out.1]; have := HWH.out.2; omega)) ?_
          rintro e xb ⟨gb, rfl, ⟨hub, _, _, _⟩, rb⟩
          obtain ⟨zb, hzb⟩ : ∃ zb, xb.alloc (.cells #[.int .i64 (pa : Int), .int .i64 (pb : Int), .slice (some ⟨gb, 0, none⟩) n n] 25) = zb := ⟨_, rfl⟩
          have hqb : Qb xb zb := by rw [← hzb]; exact (Qb.refl xb).alloc _
          have HLb : Hid (UIs zb gb 0 (rnkL (S.map f1) pa pb b wa ha k2) ∧ zb.cell? ⟨xb.heap.size, 0, none⟩ = some (.int .i64 (pa : Int)) ∧ zb.cell? ⟨xb.heap.size, 1, none⟩ = some (.int .i64 (pb : Int)) ∧ zb.cell? ⟨xb.heap.size, 2, none⟩ = some (.slice (some ⟨gb, 0, none⟩) n n)) := ⟨hub.nextB hqb, by rw [← hzb]; simp [go_sem], by rw [← hzb]; simp [go_sem], by rw [← hzb]; simp [go_sem]⟩
          have HBb : Hid (Qb wr zb) := rb.trans hqb
          have d0 := HBb.out.cell HT.out.c20
          have d1 := HBb.out.cell HT.out.c21
          have d2 := HBb.out.cell HT.out.c22
          clear hub rb hqb p2
          go_wp2_with fail
          clear hzb
          refine Calls.mono (HC.out _ r2 0 c2 (S.map f2) kk ((mapK_all HU.out.2.1 HT.out.v2).nextB HBb.out) HCC.out.2 (HWL.out _) (map_lt HU.out.2.2.1 (fun s h => by rw [← HF.out.2]; exact rsN_lt h HLH.out.1 HLH.out.2)) HZ.out.2.2.2.2.2.2.2.2) ?_
          rintro e xc ⟨gc, rfl, ⟨huc, _, _, _⟩, rc⟩
          obtain ⟨zc, hzc⟩ : ∃ zc, xc.alloc (.cells #[.int .i64 (pa : Int), .int .i64 (pb : Int), .slice (some ⟨gc, 0, none⟩) n n] 25) = zc := ⟨_, rfl⟩
          have hqc : Qb xc zc := by rw [← hzc]; exact (Qb.refl xc).alloc _
          have HLc : Hid (UIs zc gc 0 (rnkL (S.map f2) pa pb b wa ha kk) ∧ zc.cell? ⟨xc.heap.size, 0, none⟩ = some (.int .i64 (pa : Int)) ∧ zc.cell? ⟨xc.heap.size, 1, none⟩ = some (.int .i64 (pb : Int)) ∧ zc.cell? ⟨xc.heap.size, 2, none⟩ = some (.slice (some ⟨gc, 0, none⟩) n n)) := ⟨huc.nextB hqc, by rw [← hzc]; simp [go_sem], by rw [← hzc]; simp [go_sem], by rw [← hzc]; simp [go_sem]⟩
          have HBc : Hid (Qb zb zc) := rc.trans hqc
          have HP : Hid (Qb za zc) := HT.out.q.trans (HBb.out.trans HBc.out)
          have p0 := HP.out.cell HPZ.out.1
          have p1 := HP.out.cell HPZ.out.2.1
          have p2 := HP.out.cell HPZ.out.2.2
          have i0 := HP.out.cell HLa.out.2.1
          have i1 := HP.out.cell HLa.out.2.2.1
          have i2 := HP.out.cell HLa.out.2.2.2
          clear huc rc hqc d0 d1 d2
          go_wp2_with fail
          clear hzc
          refine Calls.mono (sized_yes _ _ _ _ n n c _) ?_
          rintro e y1 ⟨rfl, s1⟩
          have HS1 : Hid (Qb zc y1) := s1.qb
          have p0 := s1.cell p0
          have p1 := s1.cell p1
          have p2 := s1.cell p2
          have i0 := (HBc.out.trans HS1.out).cell HLb.out.2.1
          have i1 := (HBc.out.trans HS1.out).cell HLb.out.2.2.1
          have i2 := (HBc.out.trans HS1.out).cell HLb.out.2.2.2
          clear s1
          go_wp2_with fail
          refine Calls.mono (sized_yes _ _ _ _ n n c _) ?_
          rintro e y2 ⟨rfl, s2⟩
          have HS2 : Hid (Qb zc y2) := HS1.out.trans s2.qb
          have p0 := s2.cell p0
          have p1 := s2.cell p1
          have p2 := s2.cell p2
          have i0 := HS2.out.cell HLc.out.2.1
          have i1 := HS2.out.cell HLc.out.2.2.1
          have i2 := HS2.out.cell HLc.out.2.2.2
          clear s2
          go_wp2_with fail
          refine Calls.mono (sized_yes _ _ _ _ n n c _) ?_
          rintro e y3 ⟨rfl, s3⟩
          have HS3 : Hid (Qb zc y3) := HS2.out.trans s3.qb
          have HP3 : Hid (y3.cell? ⟨bp, 2, none⟩ = some (.slice (some ⟨gs, os, none⟩) n c) ∧ y3.cell? ⟨xa.heap.size, 2, none⟩ = some (.slice (some ⟨ga, 0, none⟩) n n) ∧ y3.cell? ⟨xb.heap.size, 2, none⟩ = some (.slice (some ⟨gb, 0, none⟩) n n) ∧ y3.cell? ⟨xc.heap.size, 2, none⟩ = some (.slice (some ⟨gc, 0, none⟩) n n)) := ⟨s3.cell p2, (HP.out.trans HS3.out).cell HLa.out.2.2.2, (HBc.out.trans HS3.out).cell HLb.out.2.2.2, HS3.out.cell HLc.out.2.2.2⟩
          have HU3 : Hid (UIs y3 ga 0 (rnkL S pa pb b wa ha kk) ∧ UIs y3 gb 0 (rnkL (S.map f1) pa pb b wa ha k2) ∧ UIs y3 gc 0 (rnkL (S.map f2) pa pb b wa ha kk)) := ⟨HLa.out.1.nextB (HP.out.trans HS3.out), HLb.out.1.nextB (HBc.out.trans HS3.out), HLc.out.1.nextB HS3.out⟩
          have HQ9 : Hid (Qb W0 y3) := HBa.out.1.trans (HP.out.trans HS3.out)
          have p2 := HP3.out.1
          clear s3 p0 p1 i0 i1 i2
          go_wp2_with fail
          clear p2
          go_loopg [26] n (fun m s26 wx => ∃ i : Nat, s26 = .int .i64 (i : Int) ∧ i + m = n ∧ Hid (Q y3 wx))
          case atStart => exact ⟨0, rfl, by omega, Q.refl y3⟩
          case round =>
            obtain ⟨i, rfl, him, HX⟩ := hrel
            have p2 := HX.out.cell HP3.out.1
            by_cases hil : i < n
            · have hil' : (i : Int) < (n : Int) := by omega
              go_wp2_with fail
              have j0 := HX.out.cell HP3.out.2.1
              have j1 := HX.out.cell HP3.out.2.2.1
              have j2 := HX.out.cell HP3.out.2.2.2
              have hnn : n = pa * pb := HZ.out.2.1
              have hip : i < pa * pb := by omega
              have ca := HX.out.cell (HU3.out.1 i (by rw [rnkL_len]; exact hip))
              have cb := HX.out.cell (HU3.out.2.1 i (by rw [rnkL_len]; exact hip))
              have cc := HX.out.cell (HU3.out.2.2 i (by rw [rnkL_len]; exact hip))
              have ea := rnkL_lt HU.out.2.2.1 (pa := pa) (pb := pb) (bd := b) HZ.out.2.2.2.2.2.2.2.2 i
              have eb : (rnkL (S.map f1) pa pb b wa ha k2).getD i 0 = f1 ((rnkL S pa pb b wa ha kk).getD i 0) := by
                rw [rnkL_at hip, rnkL_at hip, ← HF.out.1, rnk_turn HZ.out.2.2.1.a1 HZ.out.2.2.1.b1 (HU.out.2.1.trans hnn) HU.out.2.2.1 (by have := HWH.out; omega)]
                have ek : wa * ha - 1 - k2 = kk := by have := HWH.out; omega
                rw [ek]
              have ec : (rnkL (S.map f2) pa pb b wa ha kk).getD i 0 = f2 ((rnkL S pa pb b wa ha kk).getD i 0) := by
                rw [rnkL_at hip, rnkL_at hip, ← HF.out.2]
                exact rnk_map HZ.out.2.2.1.a1 HZ.out.2.2.1.b1 (HU.out.2.1.trans hnn) HU.out.2.2.1 (fun s h => rsN_lt h HLH.out.1 HLH.out.2) (rsN_rises HLH.out.1 HLH.out.2) HZ.out.2.2.2.2.2.2.2.2 _ _
              rw [eb] at cb
              rw [ec] at cc
              obtain ⟨s, hs⟩ : ∃ s, (rnkL S pa pb b wa ha kk).getD i 0 = s := ⟨_, rfl⟩
              rw [hs] at ca cb cc ea
              rw [Nat.zero_add] at ca cb cc
              have hx := xor_turn ea
              have e1 : turnN s = f1 s := by rw [HF.out.1]
              have e2 : rsN s lo hi dr = f2 s := by rw [← HF.out.2]
              rw [e1] at hx
              have HRs : Hid (∀ n : QW wr, Calls Try.prog 28 #[.int .u32 (s : Int), .int .u32 (lo : Int), .int .u32 (hi : Int), .int .i64 (dr : Int)] n.x fun e w' => e = .returned (.int .u32 ((f2 s : Nat) : Int)) ∧ w' = n.x) := fun n => by rw [← e2]; exact rises_any s lo hi dr ea HLH.out.1 HLH.out.2 hdr2 n.x
              have hb1 : (((f1 s : Nat) : Int) != ((f1 s : Nat) : Int)) = false := by simp
              have hb2 : (((f2 s : Nat) : Int) != ((f2 s : Nat) : Int)) = false := by simp
              have n0 := qw_some wr
              have f01 := qw_cell j0
              have f02 := qw_cell j1
              have f03 := qw_cell j2
              have f04 := qw_cell ca
              have f05 := qw_cell cb
              have f06 := qw_cell cc
              clear hs e1 e2 hnn hip eb ec j0 j1 j2 ca cb cc p2
              refine wp_region_quiet_Q (by kernel_rfl) (by kernel_rfl) ?_
              repeat (first | go_big_quiet_step (first | (go_at_call 28; exact calls_qs (HRs.out _))) | quiet_step (first | (go_at_call 28; exact calls_qs (HRs.out _))))
              refine wpQuiet_nil ?_
              intro w4 hw'
              have HQ4 : Hid (Q y3 w4) := HX.out.trans (qw_out hw')
              clear hw' n0 f01 f02 f03 f04 f05 f06 HRs hx HX
              go_wp2_with fail
              go_roundg (n - (i + 1))
              case measure => go_light; omega
              case rel => go_light; exact ⟨i + 1, by go_num, by omega, HQ4⟩
            · have hge2 : ¬ (i : Int) < (n : Int) := by omega
              go_wp2_with fail
              go_ret
              exact ⟨rfl, HQ9.out.trans HX.out.qb⟩
    · have HCe : Hid (∀ x, Qb W0 x → Calls Try.prog 13 #[.agg #[.int .i64 pw, .int .i64 ph, .slice ad n c], .int .i64 bd, .int .i64 W, .int .i64 H, .int .i64 k] x (Rbd x (rkE pw ph n bd W H k))) := fun x q => Calls.mono (rplane_any pw ph ad n c S bd W H k x (HU.out.1.nextB q) HU.out.2.1 HU.out.2.2.1 HU.out.2.2.2) (by
        rintro e w' ⟨a, b', ad', m, cc, E, rfl, hP⟩
        exact Pans.bd hE hP)
      obtain ⟨E, hEe⟩ : ∃ E, rkE pw ph n bd W H k = E := ⟨_, rfl⟩
      rw [hEe] at HCe hE
      have hEb : (E == 0) = false := by simp [hE]
      have hEn : (E != 0) = true := by simp [hE]
      clear hEe hE
      refine Calls.mono (HCe.out _ HQ3.out) ?_
      rintro e xa ⟨rfl, ra⟩
      obtain ⟨za, hza⟩ : ∃ za, xa.alloc (.cells #[.int .i64 0, .int .i64 0, .slice none 0 0] 25) = za := ⟨_, rfl⟩
      have hqa : Qb xa za := by rw [← hza]; exact (Qb.refl xa).alloc _
      have HBa : Hid (Qb W0 za) := Qb.trans HQ3.out (ra.trans hqa)
      have m0 : za.cell? ⟨xa.heap.size, 0, none⟩ = some (.int .i64 0) := by rw [← hza]; simp [go_sem]
      have m1 : za.cell? ⟨xa.heap.size, 1, none⟩ = some (.int .i64 0) := by rw [← hza]; simp [go_sem]
      have m2 : za.cell? ⟨xa.heap.size, 2, none⟩ = some (.slice none 0 0) := by rw [← hza]; simp [go_sem]
      have mf0 : za.frozen? ⟨xa.heap.size, 0, none⟩ = false := by rw [← hza]; simp [go_sem]
      have mf1 : za.frozen? ⟨xa.heap.size, 1, none⟩ = false := by rw [← hza]; simp [go_sem]
      have mf2 : za.frozen? ⟨xa.heap.size, 2, none⟩ = false := by rw [← hza]; simp [go_sem]
      have ms0 := setcell_id m0
      have ms1 := setcell_id m1
      have ms2 := setcell_id m2
      clear ra hqa
      go_wp2_with fail
      go_ret
      exact ⟨rfl, HBa.out⟩
end Go.Proofs.Ytdfdbamopeocjaa
