/- The document's Share, of weights that may be. -/
import Derived.Test.YtdbbpmadkhedlaaGa2ebafa2
import Derived.Test.YtdbbpmadkhedlaaGb72608d3
namespace Go.Proofs.Ytdbbpmadkhedlaa
open Go.RowKit
set_option linter.unusedVariables false
set_option linter.unusedSimpArgs false

set_option maxHeartbeats 4000000 in
set_option maxRecDepth 100000 in
theorem rshare_good (v : Value) (zs : List Int) (w : World) (hv : ISl w v zs) (hs : shOk zs) :
    Calls Try.prog 24 #[v] w fun e w' => ∃ g, e = .returned (.tuple #[.slice (some ⟨g, 0, none⟩) zs.length zs.length, .int .i64 0]) ∧ w.heap.size ≤ g ∧ IRow w' g (tabI zs.length (shrV (zf zs) zs.length)) ∧ Q w w' := by
  obtain ⟨s1, s2, s3, s4⟩ := hs
  obtain ⟨gw, ow, cw, rfl, hcw⟩ := hv.some s1
  have hm := anyT_all s3
  obtain ⟨N, eN⟩ : ∃ N, zs.length = N := ⟨_, rfl⟩
  obtain ⟨S, eS⟩ : ∃ S, sumF (zf zs) N = S := ⟨_, rfl⟩
  have HM : Hid (∀ i, -1099511627776 ≤ zf zs i ∧ zf zs i ≤ 1099511627776) := hm
  have HC : Hid (∀ i, i < N → w.cell? ⟨gw, ow + i, none⟩ = some (.int .i64 (zf zs i))) := by rw [eN] at hcw; exact hcw
  have HS : Hid (sumF (zf zs) N = S) := eS
  have HA : Hid (∀ i, i < N → tooB (zf zs i) = false) := fun i hi => tooB_of (by have := hm i; show ¬ _ < zs.getD i 0; omega) (by have := hm i; show ¬ zs.getD i 0 < _; omega)
  have HB : Hid (∀ k : Nat, -((k : Int) * 1099511627776) ≤ sumF (zf zs) k ∧ sumF (zf zs) k ≤ (k : Int) * 1099511627776) := fun k => by
    have := sumI_size zs 1099511627776 (fun i => hm i) k
    rw [sumI_zf] at this
    exact this
  have hS : 0 < S := by rw [eN, eS] at s4; exact s4
  have hSb : S ≤ 4611686018427387904 := by
    have := (HB.out N).2
    rw [eS] at this
    rw [eN] at s2
    omega
  have hS' : ¬ S ≤ 0 := by omega
  have HFin : Hid (shrV (zf zs) N = shrK (zf zs) S N (missV (zf zs) S N).toNat) := by
    show shrV (zf zs) N = _
    unfold shrV
    rw [eS]
  rw [eN] at s1 s2 ⊢
  have h0' : ((N : Int) == 0) = false := by simp; omega
  have h0'' : ¬ (N : Int) = 0 := by omega
  have h1' : ¬ (64 : Int) < (N : Int) := by omega
  have hn' : N ≤ 1048576 := by omega
  clear hv hcw hm s3 s4 eN eS
  go_enter Try.func24, Try.ntmps24
  go_wp2_with fail
  go_loopg [4, 5] N (fun gh s4 s5 wr => ∃ (i : Nat) (T : Int), s4 = .int .i64 T ∧ s5 = .int .i64 (i : Int) ∧ i ≤ N ∧ gh = N - i ∧ Hid (T = sumF (zf zs) i) ∧ wr = w)
  case atStart => exact ⟨0, 0, rfl, rfl, Nat.zero_le _, rfl, rfl, rfl⟩
  case round =>
    obtain ⟨i, T, rfl, rfl, hi, rfl, HI, hwr⟩ := hrel
    obtain rfl := hwr.symm
    by_cases hlt : i < N
    · have hltz : (i : Int) < (N : Int) := by omega
      have c1 := HC.out i hlt
      obtain ⟨z, hz⟩ : ∃ z, z = zf zs i := ⟨_, rfl⟩
      have bz := HM.out i
      rw [← hz] at c1 bz
      have t1 : ¬ 1099511627776 < z := by omega
      have t2 : ¬ z < -1099511627776 := by omega
      have HI2 : Hid (T + z = sumF (zf zs) (i + 1)) := by
        show T + z = sumF (zf zs) i + zf zs i
        rw [HI.out, hz]
      have b1 := HB.out i
      have b2 := HB.out (i + 1)
      rw [← HI.out] at b1
      rw [← HI2.out] at b2
      have b3 : -4611686018427387904 ≤ T := by omega
      have b4 : T ≤ 4611686018427387904 := by omega
      have b5 : -9223372036854775808 ≤ T + z := by omega
      have b6 : T + z ≤ 9223372036854775807 := by omega
      clear b1 b2 hz bz
      go_wp2_with fail
      go_roundg (N - (i + 1))
      case measure => go_light; omega
      case rel => go_light; exact ⟨i + 1, T + z, rfl, by simp, by omega, rfl, HI2, rfl⟩
    · have hge : ¬ (i : Int) < (N : Int) := by omega
      obtain rfl : i = N := by omega
      obtain rfl : T = S := by rw [HI.out, HS.out]
      clear HI hge hlt hi
      go_wp2_with fail
      refine regionRs (B := w.heap.size) (ad := some ⟨gw, ow, none⟩) (n := i) (c := cw) rfl rfl ⟨rfl, hn', Nat.le_refl _⟩ ?_
      intro w2 g gr q2 l1 l2 ne b1 b2 r1 r2
      rw [normRs]
      have HD : Hid (Ds w w2 (partF (flo (zf zs) T) 0) (partF (fun j => rsV (zf zs) T j) 0) i g gr) := by
        have e : ∀ f : Nat → Int, List.replicate i (0 : Int) = tabI i (partF f 0) := fun f => by rw [tabI_zero]; exact tabI_congr (fun i _ => by simp [partF])
        exact ⟨q2, by rw [← e]; exact r1, by rw [← e]; exact r2, l1, l2, ne⟩
      clear q2 l1 l2 ne b1 b2 r1 r2
      go_wp2_with fail
      go_loopg [8, 9] i (fun gh s8 s9 wx => ∃ (j : Nat) (m : Int), s8 = .int .i64 m ∧ s9 = .int .i64 (j : Int) ∧ j ≤ i ∧ gh = i - j ∧ Hid (m = 65536 - sumF (flo (zf zs) T) j) ∧ Hid (Ds w wx (partF (flo (zf zs) T) j) (partF (fun j => rsV (zf zs) T j) j) i g gr))
      case atStart => exact ⟨0, 65536, rfl, rfl, Nat.zero_le _, rfl, rfl, HD⟩
      case round =>
        clear HD
        obtain ⟨j, m, rfl, rfl, hj, rfl, HMi, HD⟩ := hrel
        by_cases hlt : j < i
        · have hltz : (j : Int) < (i : Int) := by omega
          obtain ⟨z, hz⟩ : ∃ z, z = zf zs j := ⟨_, rfl⟩
          have bz := HM.out j
          have c1 := HD.out.q.cell (HC.out j hlt)
          rw [← hz] at c1 bz
          obtain ⟨bz1, bz2⟩ := bz
          have Cf := rfloor_any (65536 * z) T wr hS (by omega) (by omega) hSb
          obtain ⟨u, hu⟩ : ∃ u, u = flo (zf zs) T j := ⟨_, rfl⟩
          obtain ⟨r, hr⟩ : ∃ r, r = rsV (zf zs) T (j : Int) := ⟨_, rfl⟩
          have eu : 65536 * z / T = u := by rw [hu, hz]; rfl
          rw [eu] at Cf
          have bu := flo_size (z := zf zs) (i := j) hS (HM.out j)
          rw [← hu] at bu
          obtain ⟨bu1, bu2⟩ := bu
          have br1 := rs_nonneg (zf zs) hS (j : Int)
          have br2 := rs_lt (zf zs) hS (j : Int)
          rw [← hr] at br1 br2
          have efr := flo_rs (zf zs) T j
          rw [← hu, ← hr, ← hz] at efr
          obtain ⟨p, hp⟩ : ∃ p, u * T = p := ⟨_, rfl⟩
          rw [Int.mul_comm T u, hp] at efr
          have ep : 65536 * z - p = r := by omega
          have bp1 : -9223372036854775808 ≤ p := by omega
          have bp2 : p ≤ 9223372036854775807 := by omega
          have y1 := HD.out.l.cell j _ (tabI_at hlt)
          have f1 := HD.out.l.free j
          have y2 := HD.out.r.cell j _ (tabI_at hlt)
          have f2 := HD.out.r.free j
          obtain ⟨a1, ha1⟩ : ∃ a1, partF (flo (zf zs) T) j j = a1 := ⟨_, rfl⟩
          obtain ⟨a2, ha2⟩ : ∃ a2, partF (fun j => rsV (zf zs) T j) j j = a2 := ⟨_, rfl⟩
          rw [ha1] at y1
          rw [ha2] at y2
          have HD2 : Hid _ := HD.out.setl hlt (u := u) (hu.trans (partF_new _ _)) (partF_old _ _)
          have HMi2 : Hid (m - u = 65536 - sumF (flo (zf zs) T) (j + 1)) := by
            show m - u = 65536 - (sumF (flo (zf zs) T) j + flo (zf zs) T j)
            rw [HMi.out, hu]; omega
          have bm := sumF_flo_bd (z := zf zs) hS HM.out j
          have bm2 := sumF_flo_bd (z := zf zs) hS HM.out (j + 1)
          have bm3 : -9223372036854775808 ≤ m - u ∧ m - u ≤ 9223372036854775807 ∧ -9223372036854775808 ≤ m ∧ m ≤ 9223372036854775807 := by
            rw [HMi2.out, HMi.out]; omega
          obtain ⟨bm4, bm5, bm6, bm7⟩ := bm3
          have HE : Hid (r = rsV (zf zs) T (j : Int)) := hr
          have HZZ : Hid (zf zs j = z) := hz.symm
          clear hu hr hz eu ha1 ha2 bm bm2 efr HD HMi
          go_wp2_with (refine Cf.mono ?_; rintro e w' ⟨rfl, hw'⟩; obtain rfl := hw'.symm)
          clear Cf
          have y3 : (wr.setCell ⟨g, j, none⟩ (.int .i64 u)).cell? ⟨g, j, none⟩ = some (.int .i64 u) := World.cell?_setCell_same _ _ _ y1
          have y4 : (wr.setCell ⟨g, j, none⟩ (.int .i64 u)).cell? ⟨gr, j, none⟩ = some (.int .i64 a2) := (World.cell?_setCell_other _ _ _ _ (fun e => HD2.out.ne (by injection e))).trans y2
          have f4 : (wr.setCell ⟨g, j, none⟩ (.int .i64 u)).frozen? ⟨gr, j, none⟩ = false := by rw [World.frozen?_setCell]; exact f2
          have c4 := HD2.out.q.cell (HC.out j hlt)
          clear y1 y2 f1 f2 c1
          generalize wr.setCell ⟨g, j, none⟩ (.int .i64 u) = wn at HD2 y3 y4 f4 c4 ⊢
          rw [HZZ.out] at c4
          have n0 := qw_some wn
          have k1 := qw_cell c4
          have k2 := qw_cell y3
          have wz : IntKind.i64.wrap (65536 * z) = 65536 * z := by rw [IntKind.wrap_i64]; omega
          have wp : IntKind.i64.wrap p = p := by rw [IntKind.wrap_i64]; omega
          have wq : IntKind.i64.wrap r = r := by rw [IntKind.wrap_i64]; omega
          clear c4 bp1 bp2 br1
          go_wp2_with fail
          refine wp_region_mk [0, 1, 2, 3, 4, 5, 6, 7, 8, 9, 10, 11, 12, 13, 14] [[15]] 1 _ (by kernel_rfl) (by kernel_rfl) rfl (by kernel_rfl) ?_
          simp only [List.filterMap_cons, List.filterMap_nil, List.getElem?_cons_zero, List.getElem?_cons_succ]
          repeat (first | go_big_quiet_step (fail) | quiet_step (fail))
          refine wpQuiet_nil ?_
          intro x5 hx5
          clear k1 k2 n0
          have y5 := hx5.cell y4
          have f5 : x5.frozen? ⟨gr, j, none⟩ = false := by rw [hx5.2]; exact f4
          have y6 : (x5.setCell ⟨gr, j, none⟩ (.int .i64 r)).cell? ⟨g, j, none⟩ = some (.int .i64 u) := (World.cell?_setCell_other _ _ _ _ (fun e => HD2.out.ne (by injection e with e; exact e.symm))).trans (hx5.cell y3)
          have HD3 : Hid _ := (HD2.out.next hx5).setr hlt (u := r) (HE.out.trans (partF_new (fun j => rsV (zf zs) T j) _)) (partF_old _ _)
          refine tree_skipF 15 rfl rfl rfl (x' := x5.setCell ⟨gr, j, none⟩ (.int .i64 r)) (run_sti (i := j) (by kernel_rfl) (by kernel_rfl) y5 f5) ?_
          refine tree_nil ?_
          clear y3 y4 f4 y5 f5 HD2 hx5
          generalize x5.setCell ⟨gr, j, none⟩ (.int .i64 r) = x6 at HD3 y6 ⊢
          go_wp2_with fail
          go_roundg (i - (j + 1))
          case measure => go_light; omega
          case rel => go_light; exact ⟨j + 1, m - u, rfl, by simp, by omega, rfl, HMi2, HD3⟩
        · have hge : ¬ (j : Int) < (i : Int) := by omega
          obtain rfl : j = i := by omega
          have hm0 := miss_ge (zf zs) HS.out.symm hS
          have hm1 := miss_le (zf zs) HS.out.symm hS (by omega)
          obtain ⟨mm, hmm⟩ : ∃ mm : Nat, (mm : Int) = missV (zf zs) T j := ⟨(missV (zf zs) T j).toNat, by omega⟩
          have HMM : Hid ((missV (zf zs) T j).toNat = mm) := by show _ = _; omega
          obtain rfl : m = (mm : Int) := by rw [HMi.out, hmm]; rfl
          have hmN : mm < j := by omega
          have HG0 : Hid (Ds w wr (shrK (zf zs) T j 0) (rstK (zf zs) T j 0) j g gr) := by
            have := HD.out
            refine ⟨this.q, ?_, ?_, this.l1, this.l2, this.ne⟩
            · rw [tabI_congr (g := partF (flo (zf zs) T) j) (fun k hk => by rw [shrK_zero]; unfold partF; rw [if_pos hk])]; exact this.l
            · rw [tabI_congr (g := partF (fun j => rsV (zf zs) T j) j) (fun k hk => by rw [rstK_zero]; unfold partF; rw [if_pos hk])]; exact this.r
          clear HD hm0 hm1 hmm HMi hge hlt hj
          generalize wr = wz at *
          go_wp2_with fail
          go_loopg [8, 10, 11] mm (fun gh s8 s10 s11 wx => ∃ (k mk : Nat), s8 = .int .i64 (mk : Int) ∧ Hid (mk + k = mm) ∧ gh = mk ∧ Hid (Ds w wx (shrK (zf zs) T j k) (rstK (zf zs) T j k) j g gr))
          case atStart => exact ⟨0, mm, rfl, rfl, rfl, HG0⟩
          case round =>
            clear HG0
            obtain ⟨k, mk, rfl, HK, hgh, HG⟩ := hrel
            obtain rfl := hgh.symm
            generalize wr = wi at *
            by_cases hlt : 0 < mk
            · have hltz : (0 : Int) < (mk : Int) := by omega
              have hkj : k < j := by have := HK.out; omega
              go_wp2_with fail
              go_loopg [10, 11] (j - 1) (fun gh s10 s11 wx => ∃ (b i : Nat), s10 = .int .i64 (b : Int) ∧ s11 = .int .i64 (i : Int) ∧ b < j ∧ 1 ≤ i ∧ i ≤ j ∧ gh = j - i ∧ Hid (Bst (rstK (zf zs) T j k) i b) ∧ Hid (Q wi wx))
              case atStart => exact ⟨0, 1, rfl, rfl, by omega, Nat.le_refl _, by omega, rfl, Bst.one _, Q.refl _⟩
              case round =>
                obtain ⟨b, i, rfl, rfl, hbj, hi1, hij, rfl, HBs, HQ⟩ := hrel
                by_cases hi : i < j
                · have hiz : (i : Int) < (j : Int) := by omega
                  have hbz : (b : Int) < (j : Int) := by omega
                  have d1 := HQ.out.cell (HG.out.r.cell i _ (tabI_at hi))
                  have d2 := HQ.out.cell (HG.out.r.cell b _ (tabI_at hbj))
                  obtain ⟨x1, hx1⟩ : ∃ x1, rstK (zf zs) T j k i = x1 := ⟨_, rfl⟩
                  obtain ⟨x2, hx2⟩ : ∃ x2, rstK (zf zs) T j k b = x2 := ⟨_, rfl⟩
                  rw [hx1] at d1
                  rw [hx2] at d2
                  have n0 := qw_some wr
                  have k1 := qw_cell d1
                  have k2 := qw_cell d2
                  have HX : Hid (rstK (zf zs) T j k i = x1 ∧ rstK (zf zs) T j k b = x2) := ⟨hx1, hx2⟩
                  clear hx1 hx2
                  by_cases hgt : x2 < x1
                  · have HB2 : Hid (Bst (rstK (zf zs) T j k) (i + 1) i) := HBs.out.new (by rw [HX.out.1, HX.out.2]; exact hgt)
                    go_wp2_with fail
                    refine wp_region_quiet_Q (by kernel_rfl) (by kernel_rfl) ?_
                    repeat (first | go_big_quiet_step (fail) | quiet_step (fail))
                    refine wpQuiet_nil ?_
                    intro w4 hw'
                    have HQ4 : Hid (Q wi w4) := HQ.out.trans (qw_out hw')
                    clear hw' k1 k2 n0 d1 d2
                    go_wp2_with fail
                    go_roundg (j - (i + 1))
                    case measure => go_light; omega
                    case rel => go_light; exact ⟨i, i + 1, rfl, by simp, hi, by omega, by omega, rfl, HB2, HQ4⟩
                  · have HB2 : Hid (Bst (rstK (zf zs) T j k) (i + 1) b) := HBs.out.old (by rw [HX.out.1, HX.out.2]; exact hgt)
                    go_wp2_with fail
                    refine wp_region_quiet_Q (by kernel_rfl) (by kernel_rfl) ?_
                    repeat (first | go_big_quiet_step (fail) | quiet_step (fail))
                    refine wpQuiet_nil ?_
                    intro w4 hw'
                    have HQ4 : Hid (Q wi w4) := HQ.out.trans (qw_out hw')
                    clear hw' k1 k2 n0 d1 d2
                    go_wp2_with fail
                    go_roundg (j - (i + 1))
                    case measure => go_light; omega
                    case rel => go_light; exact ⟨b, i + 1, rfl, by simp, hbj, by omega, by omega, rfl, HB2, HQ4⟩
                · have hige : ¬ (i : Int) < (j : Int) := by omega
                  obtain rfl : i = j := by omega
                  obtain ⟨o, ho, hoN⟩ := ordL_place (r := rsV (zf zs) T) hkj
                  obtain rfl : b = o := HBs.out.unique (bst_ord hS ho)
                  have hbz : (b : Int) < (i : Int) := by omega
                  have HG1 := HG.out.next HQ.out
                  have y1 := HG1.l.cell b _ (tabI_at hbj)
                  have f1 := HG1.l.free b
                  have y2 := HG1.r.cell b _ (tabI_at hbj)
                  have f2 := HG1.r.free b
                  obtain ⟨e1, e2⟩ := shrK_hit ho
                  obtain ⟨e3, e4⟩ := rstK_hit ho
                  obtain ⟨x1, hx1⟩ : ∃ x1, shrK (zf zs) T i k b = x1 := ⟨_, rfl⟩
                  obtain ⟨x2, hx2⟩ : ∃ x2, rstK (zf zs) T i k b = x2 := ⟨_, rfl⟩
                  have bx : -72057594037927936 ≤ x1 ∧ x1 ≤ 72057594037927937 := by
                    rw [← hx1]; unfold shrK
                    have := flo_size (z := zf zs) (i := b) hS (HM.out b)
                    split <;> omega
                  obtain ⟨bx1, bx2⟩ := bx
                  rw [hx1] at y1 e1
                  rw [hx2] at y2
                  have HD2 : Hid (Ds w ((wr.setCell ⟨g, b, none⟩ (.int .i64 (x1 + 1))).setCell ⟨gr, b, none⟩ (.int .i64 (-1))) (shrK (zf zs) T i (k + 1)) (rstK (zf zs) T i (k + 1)) i g gr) := (HG1.setl hbj (u := x1 + 1) e1.symm e2).setr hbj (u := -1) e3.symm e4
                  have y4 : (wr.setCell ⟨g, b, none⟩ (.int .i64 (x1 + 1))).cell? ⟨gr, b, none⟩ = some (.int .i64 x2) := (World.cell?_setCell_other _ _ _ _ (fun e => HG1.ne (by injection e))).trans y2
                  have f4 : (wr.setCell ⟨g, b, none⟩ (.int .i64 (x1 + 1))).frozen? ⟨gr, b, none⟩ = false := by rw [World.frozen?_setCell]; exact f2
                  obtain ⟨mk', hmk⟩ : ∃ mk', mk = mk' + 1 := ⟨mk - 1, by omega⟩
                  have emk : (mk : Int) - 1 = (mk' : Int) := by omega
                  have HK2 : Hid (mk' + (k + 1) = mm) := by have := HK.out; show mk' + (k + 1) = mm; omega
                  have hlm : mk' < mk := by omega
                  have hmkb : mk ≤ 100 := by have := HK.out; omega
                  have hmkb2 : mk' ≤ 100 := by omega
                  clear ho e1 e2 e3 e4 hx1 hx2 HG1 y2 f2 HBs HQ HG HK hmk
                  go_wp2_with fail
                  generalize ((wr.setCell ⟨g, b, none⟩ (.int .i64 (x1 + 1))).setCell ⟨gr, b, none⟩ (.int .i64 (-1))) = w9 at HD2 ⊢
                  go_roundg mk'
                  case measure => go_light; omega
                  case rel => go_light; exact ⟨k + 1, mk', by simp [emk], HK2, rfl, HD2⟩
            · have hge : ¬ (0 : Int) < (mk : Int) := by omega
              obtain rfl : mk = 0 := by omega
              have HKe : Hid (k = mm) := by have := HK.out; show k = mm; omega
              go_wp2_with fail
              go_ret2
              refine ⟨g, rfl, HG.out.l1, ?_, HG.out.q⟩
              rw [HFin.out, HMM.out, ← HKe.out]
              exact HG.out.l
end Go.Proofs.Ytdbbpmadkhedlaa
/- The document's weights. -/
namespace Go.Proofs.Ytdbbpmadkhedlaa
open Go.RowKit
set_option linter.unusedVariables false
set_option linter.unusedSimpArgs false

set_option maxHeartbeats 1000000 in
theorem r9size_any (k : Int) (w : World) : Calls Try.prog 21 #[.int .i64 k] w fun e w' => e = .returned (.bool (decide (1 ≤ k ∧ k ≤ 1024))) ∧ w' = w := by
  by_cases h1 : 1 ≤ k
  · by_cases h2 : k ≤ 1024
    · rw [decide_eq_true ⟨h1, h2⟩]
      go_enter Try.func21, Try.ntmps21
      go_wp2_with fail
      go_ret
      exact ⟨by first | rfl | simp, rfl⟩
    · rw [decide_eq_false (fun h => h2 h.2)]
      go_enter Try.func21, Try.ntmps21
      go_wp2_with fail
      go_ret
      exact ⟨by first | rfl | (simp; omega), rfl⟩
  · rw [decide_eq_false (fun h => h1 h.1)]
    go_enter Try.func21, Try.ntmps21
    go_wp2_with fail
    go_ret
    exact ⟨by first | rfl | (simp; omega), rfl⟩
theorem mx_abs (a : Int) : ∀ (ts : Array TypeId) (t : TypeId) (w : World), (Builtin.max_ ts t #[.int .i64 a, .int .i64 (-a)]).run Try.prog w = .ok (.int .i64 (absI a)) w := fun ts t w => by rw [← absI_max]; exact run_mx2 ts t _ _ w
set_option maxHeartbeats 2000000 in
set_option maxRecDepth 100000 in
theorem rw1_any (a b : Int) (w : World) (a0 : -81920 ≤ a) (a1 : a ≤ 81920) (b0 : 1 ≤ b) (b1 : b ≤ 2048) :
    Calls Try.prog 23 #[.int .i64 1, .int .i64 a, .int .i64 b] w fun e w' => e = .returned (.int .i64 (if -b ≤ 2 * a ∧ 2 * a < b then 2 * b * b * b else 0)) ∧ w' = w := by
  have hmx := mx_abs a
  generalize absI a = A at hmx
  have m2 := mul_bd (by omega : 0 ≤ b) b1 (by omega : 0 ≤ b) b1
  have m5 := mul_bd m2.1 m2.2 (by omega : 0 ≤ b) b1
  have e5 : 2 * b * b = 2 * (b * b) := Int.mul_assoc _ _ _
  have e6 : 2 * (b * b) * b = 2 * (b * b * b) := Int.mul_assoc _ _ _
  obtain ⟨bb, hbb⟩ : ∃ bb, bb = b * b := ⟨_, rfl⟩
  obtain ⟨bbb, hbbb⟩ : ∃ x, x = b * b * b := ⟨_, rfl⟩
  rw [show (2 * b * b * b : Int) = 2 * bbb by rw [e5, e6, hbbb]]
  rw [← hbbb] at m5 e6
  rw [← hbb] at m2 e5 e6
  obtain ⟨m2a, m2b⟩ := m2
  obtain ⟨m5a, m5b⟩ := m5
  clear hbb hbbb
  by_cases h1 : -b ≤ 2 * a
  · by_cases h2 : 2 * a < b
    · rw [if_pos ⟨h1, h2⟩]
      go_enter Try.func23, Try.ntmps23
      go_wp2_with fail
      go_ret
      exact ⟨rfl, rfl⟩
    · rw [if_neg (fun h => h2 h.2)]
      go_enter Try.func23, Try.ntmps23
      go_wp2_with fail
      go_ret
      exact ⟨rfl, rfl⟩
  · rw [if_neg (fun h => h1 h.1)]
    go_enter Try.func23, Try.ntmps23
    go_wp2_with fail
    go_ret
    exact ⟨rfl, rfl⟩
set_option maxHeartbeats 2000000 in
set_option maxRecDepth 100000 in
theorem rw2_any (a b : Int) (w : World) (a0 : -81920 ≤ a) (a1 : a ≤ 81920) (b0 : 1 ≤ b) (b1 : b ≤ 2048) :
    Calls Try.prog 23 #[.int .i64 2, .int .i64 a, .int .i64 b] w fun e w' => e = .returned (.int .i64 (if absI a < b then 2 * b * b * (b - absI a) else 0)) ∧ w' = w := by
  have hmx := mx_abs a
  have hA : 0 ≤ absI a := by unfold absI; omega
  generalize absI a = A at hmx hA ⊢
  have m2 := mul_bd (by omega : 0 ≤ b) b1 (by omega : 0 ≤ b) b1
  have e5 : 2 * b * b = 2 * (b * b) := Int.mul_assoc _ _ _
  obtain ⟨bb, hbb⟩ : ∃ bb, bb = b * b := ⟨_, rfl⟩
  rw [← hbb] at m2 e5
  rw [e5]
  obtain ⟨m2a, m2b⟩ := m2
  clear hbb
  by_cases h1 : A < b
  · rw [if_pos h1]
    have m3 := mul_bd (x := 2 * bb) (X := 8388608) (y := b - A) (Y := 2048) (by omega) (by omega) (by omega) (by omega)
    obtain ⟨d, hd⟩ : ∃ d, b - A = d := ⟨_, rfl⟩
    rw [hd] at m3 ⊢
    obtain ⟨r, hr⟩ : ∃ r, 2 * bb * d = r := ⟨_, rfl⟩
    rw [hr] at m3 ⊢
    obtain ⟨m3a, m3b⟩ := m3
    have d1 : 0 ≤ d := by omega
    have d2 : d ≤ 2048 := by omega
    go_enter Try.func23, Try.ntmps23
    go_wp2_with fail
    go_ret
    exact ⟨rfl, rfl⟩
  · rw [if_neg h1]
    go_enter Try.func23, Try.ntmps23
    go_wp2_with fail
    go_ret
    exact ⟨rfl, rfl⟩
set_option maxHeartbeats 4000000 in
set_option maxRecDepth 100000 in
theorem rw3_any (a b : Int) (w : World) (a0 : -81920 ≤ a) (a1 : a ≤ 81920) (b0' : 1 ≤ b) (b1 : b ≤ 2048) :
    Calls Try.prog 23 #[.int .i64 3, .int .i64 a, .int .i64 b] w fun e w' => e = .returned (.int .i64 (cubV (absI a) b)) ∧ w' = w := by
  have hmx := mx_abs a
  have c0 : 0 ≤ absI a := by unfold absI; omega
  generalize absI a = c at hmx c0 ⊢
  have b0 : 0 ≤ b := by omega
  by_cases hc : c < 2 * b
  · have c1 : c ≤ 8192 := by omega
    have m1 := mul_bd c0 c1 c0 c1
    have m2 := mul_bd b0 b1 b0 b1
    have m3 := mul_bd m1.1 m1.2 c0 c1
    have m4 := mul_bd m1.1 m1.2 b0 b1
    have m5 := mul_bd m2.1 m2.2 b0 b1
    have m6 := mul_bd c0 c1 m2.1 m2.2
    have e1 : 3 * c * c = 3 * (c * c) := Int.mul_assoc _ _ _
    have e2 : 3 * c * c * c = 3 * (c * c * c) := by rw [e1, Int.mul_assoc]
    have e3 : 5 * c * c = 5 * (c * c) := Int.mul_assoc _ _ _
    have e4 : 5 * c * c * b = 5 * (c * c * b) := by rw [e3, Int.mul_assoc]
    have e5 : 2 * b * b = 2 * (b * b) := Int.mul_assoc _ _ _
    have e6 : 2 * b * b * b = 2 * (b * b * b) := by rw [e5, Int.mul_assoc]
    have e7 : -c * c = -(c * c) := Int.neg_mul _ _
    have e8 : -c * c * c = -(c * c * c) := by rw [e7, Int.neg_mul]
    have e9 : 8 * c * b = 8 * (c * b) := Int.mul_assoc _ _ _
    have e10 : 8 * c * b * b = 8 * (c * (b * b)) := by rw [e9, Int.mul_assoc, Int.mul_assoc]
    have e11 : 4 * b * b = 4 * (b * b) := Int.mul_assoc _ _ _
    have e12 : 4 * b * b * b = 4 * (b * b * b) := by rw [e11, Int.mul_assoc]
    have m7 := mul_bd c0 c1 b0 b1
    unfold cubV
    rw [e2, e4, e6, e8, e10, e12]
    have E1 : Hid (3 * c * c = 3 * (c * c)) := e1
    obtain ⟨cc, hcc⟩ : ∃ cc, cc = c * c := ⟨_, rfl⟩
    obtain ⟨bb, hbb⟩ : ∃ bb, bb = b * b := ⟨_, rfl⟩
    obtain ⟨ccc, hccc⟩ : ∃ x, x = c * c * c := ⟨_, rfl⟩
    obtain ⟨ccb, hccb⟩ : ∃ x, x = c * c * b := ⟨_, rfl⟩
    obtain ⟨bbb, hbbb⟩ : ∃ x, x = b * b * b := ⟨_, rfl⟩
    obtain ⟨cbb, hcbb⟩ : ∃ x, x = c * (b * b) := ⟨_, rfl⟩
    obtain ⟨cb, hcb⟩ : ∃ x, x = c * b := ⟨_, rfl⟩
    rw [← hccc] at m3 e2 e8 ⊢
    rw [← hccb] at m4 e4 ⊢
    rw [← hbbb] at m5 e6 e12 ⊢
    rw [← hcbb] at m6 e10 ⊢
    rw [← hcc] at m1 e1 e3 e7
    rw [← hbb] at m2 e5 e11
    rw [← hcb] at m7 e9
    rw [e1] at e2
    rw [e3] at e4
    rw [e5] at e6
    rw [e7] at e8
    rw [e9] at e10
    rw [e11] at e12
    obtain ⟨m1a, m1b⟩ := m1
    obtain ⟨m2a, m2b⟩ := m2
    obtain ⟨m3a, m3b⟩ := m3
    obtain ⟨m4a, m4b⟩ := m4
    obtain ⟨m5a, m5b⟩ := m5
    obtain ⟨m6a, m6b⟩ := m6
    obtain ⟨m7a, m7b⟩ := m7
    have n8 : -cc * c = -ccc := e8
    clear hcc hbb hccc hccb hbbb hcbb hcb E1
    by_cases h1 : c < b
    · rw [if_pos h1]
      go_enter Try.func23, Try.ntmps23
      go_wp2_with fail
      go_ret
      exact ⟨rfl, rfl⟩
    · rw [if_neg h1, if_pos hc]
      go_enter Try.func23, Try.ntmps23
      go_wp2_with fail
      go_ret
      exact ⟨rfl, rfl⟩
  · have h1 : ¬ c < b := by omega
    unfold cubV
    rw [if_neg h1, if_neg hc]
    go_enter Try.func23, Try.ntmps23
    go_wp2_with fail
    go_ret
    exact ⟨rfl, rfl⟩
theorem rweight_any (kind a b : Int) (w : World) (hk : kind = 1 ∨ kind = 2 ∨ kind = 3) (a0 : -81920 ≤ a) (a1 : a ≤ 81920) (b0 : 1 ≤ b) (b1 : b ≤ 2048) :
    Calls Try.prog 23 #[.int .i64 kind, .int .i64 a, .int .i64 b] w fun e w' => e = .returned (.int .i64 (wgtR kind a b)) ∧ w' = w := by
  rcases hk with rfl | rfl | rfl
  · exact rw1_any a b w a0 a1 b0 b1
  · exact rw2_any a b w a0 a1 b0 b1
  · exact rw3_any a b w a0 a1 b0 b1
end Go.Proofs.Ytdbbpmadkhedlaa
/- The chapter's examples: known. -/
namespace Go.Proofs.Ytdbbpmadkhedlaa
open Go.RowKit
set_option linter.unusedVariables false
set_option linter.unusedSimpArgs false

theorem shr_none {z : Nat → Int} {n : Nat} {S : Int} (h1 : sumF z n = S) (h2 : missV z S n = 0) (i : Nat) : shrV z n i = flo z S i := by
  unfold shrV; rw [h1, h2]; exact shrK_zero _ _ _ _
theorem tk1 : wlsV 2 2 4 1 = [(0, 6), (1, 2)] := by decide
theorem tk2 : wlsV 3 2 4 1 = [(0, 816), (1, 208)] := by decide
theorem tk1' : tapsL (wlsV 2 2 4 1) = [(0, 49152), (1, 16384)] := by
  rw [tk1]
  have e := shr_none (z := zf [6, 2]) (n := 2) (S := 8) (by decide) (by decide)
  show tpK [(0, 6), (1, 2)] (shrV (zf [6, 2]) 2) 2 = _
  rw [show shrV (zf [6, 2]) 2 = flo (zf [6, 2]) 8 from funext e]
  decide
theorem tk2' : tapsL (wlsV 3 2 4 1) = [(0, 52224), (1, 13312)] := by
  rw [tk2]
  have e := shr_none (z := zf [816, 208]) (n := 2) (S := 1024) (by decide) (by decide)
  show tpK [(0, 816), (1, 208)] (shrV (zf [816, 208]) 2) 2 = _
  rw [show shrV (zf [816, 208]) 2 = flo (zf [816, 208]) 1024 from funext e]
  decide
theorem sk1 : tabI 3 (shrV (zf [1, 1, 1]) 3) = [21846, 21845, 21845] := by
  have o : ordL (rsV (zf [1, 1, 1]) 3) 3 = [0, 1, 2] := ordL_eq (by decide) (by unfold tlt; decide)
  have s : sumF (zf [1, 1, 1]) 3 = 3 := by decide
  have m : missV (zf [1, 1, 1]) 3 3 = 1 := by decide
  have e : shrV (zf [1, 1, 1]) 3 = fun i : Nat => flo (zf [1, 1, 1]) 3 i + if (i : Int) ∈ ([0] : List Int) then 1 else 0 := by
    funext i
    unfold shrV shrK
    rw [s, m, o]
    rfl
  rw [e]
  decide
theorem sz1 : Sz 2 4 1 := ⟨by decide, by decide, by decide, by decide, by decide, by decide⟩
theorem ok1 : shOk [1, 1, 1] := ⟨by decide, by decide, by decide, by decide⟩
set_option maxHeartbeats 4000000 in
set_option maxRecDepth 100000 in
theorem known9_any (w : World) : Calls Try.prog 5 #[] w fun e w' => e = .returned (.bool true) ∧ Q w w' := by
  have C1 := taps_good 2 2 4 1 w (by decide) sz1 (by rw [tk1]; decide)
  have HC2 : Hid (∀ W : World, Calls Try.prog 16 #[.int .i64 3, .int .i64 2, .int .i64 4, .int .i64 1] W fun e w' => ∃ v n, e = .returned (.tuple #[v, .int .i64 0]) ∧ Tl W w' v (tapsL (wlsV 3 2 4 1)) n) := fun W => taps_good 3 2 4 1 W (by decide) sz1 (by rw [tk2]; decide)
  have HC3 : Hid (∀ W : World, Calls Try.prog 17 #[.slice (some ⟨W.heap.size, 0, none⟩) 3 3] (W.alloc (.cells #[.int .i64 1, .int .i64 1, .int .i64 1] 3)) fun e w' => ∃ g, e = .returned (.tuple #[.slice (some ⟨g, 0, none⟩) 3 3, .int .i64 0]) ∧ W.heap.size + 1 ≤ g ∧ IRow w' g [21846, 21845, 21845] ∧ Q (W.alloc (.cells #[.int .i64 1, .int .i64 1, .int .i64 1] 3)) w') := fun W => by
    have h := share_good (.slice (some ⟨W.heap.size, 0, none⟩) 3 3) [1, 1, 1] (W.alloc (.cells #[.int .i64 1, .int .i64 1, .int .i64 1] 3)) (Or.inl ⟨W.heap.size, 0, 3, rfl, fun i hi => by
      have : i = 0 ∨ i = 1 ∨ i = 2 := by simp at hi; omega
      rcases this with rfl | rfl | rfl <;> simp [go_sem]⟩) ok1
    refine h.mono ?_
    rintro e w' ⟨g, h1, h2, h3, h4⟩
    rw [show ([1, 1, 1] : List Int).length = 3 from rfl, sk1] at h3
    exact ⟨g, h1, by simpa using h2, h3, h4⟩
  have HC4 : Hid (∀ W : World, Calls Try.prog 18 #[.int .i64 2] W fun e w' => ∃ v n, e = .returned (.tuple #[v, .int .i64 0]) ∧ Il W w' v [1, 4, 6, 4, 1] n) := fun W => bin_good 2 W (by decide)
  rw [tk1'] at C1
  rw [tk2'] at HC2
  go_enter Try.func5, Try.ntmps5
  go_wp2_with fail
  refine C1.mono ?_
  rintro e w1 ⟨v1, n1, rfl, h1⟩
  have H1 : Hid (Tl w w1 v1 [(0, 49152), (1, 16384)] n1) := h1
  clear C1 h1
  go_wp2_with fail
  refine (HC2.out w1).mono ?_
  rintro e w2 ⟨v2, n2, rfl, h2⟩
  have H2 : Hid (Tl w1 w2 v2 [(0, 52224), (1, 13312)] n2) := h2
  clear h2
  go_wp2_with fail
  refine (HC3.out w2).mono ?_
  rintro e w3 ⟨g3, rfl, _, h3, q3⟩
  have H3 : Hid (IRow w3 g3 [21846, 21845, 21845]) := h3
  have HQ3 : Hid (Q w2 w3) := ((Q.refl w2).cells _ _).trans q3
  clear h3 q3
  go_wp2_with fail
  refine (HC4.out w3).mono ?_
  rintro e w4 ⟨v4, n4, rfl, h4⟩
  have H4 : Hid (Il w3 w4 v4 [1, 4, 6, 4, 1] n4) := h4
  clear h4
  have T1 : Hid (TSl w4 v1 [(0, 49152), (1, 16384)]) := H1.out.tsl.next ((H2.out.q.trans HQ3.out).trans H4.out.q)
  have T2 : Hid (TSl w4 v2 [(0, 52224), (1, 13312)]) := H2.out.tsl.next (HQ3.out.trans H4.out.q)
  have T3 : Hid (ISl w4 (.slice (some ⟨g3, 0, none⟩) 3 3) [21846, 21845, 21845]) := (H3.out.isl 3).next H4.out.q
  have T4 : Hid (ISl w4 v4 [1, 4, 6, 4, 1]) := H4.out.isl
  have HQ4 : Hid (Q w w4) := ((H1.out.q.trans H2.out.q).trans HQ3.out).trans H4.out.q
  clear H1 H2 H3 H4 HQ3 HC2 HC3 HC4
  go_wp2_with fail
  refine (same_any v1 _ [(0, 49152), (1, 16384)] [(0, 49152), (1, 16384)] (w4.alloc (.cells #[.int .i64 0, .int .i64 49152, .int .i64 1, .int .i64 16384] 56)) (T1.out.next ((Q.refl w4).cells _ _)) (Or.inl ⟨w4.heap.size, 0, 2, rfl, fun i e hi => by
    have : i = 0 ∨ i = 1 := by have := (List.getElem?_eq_some_iff.1 hi).1; simp at this; omega
    rcases this with rfl | rfl <;> (cases hi; simp [go_sem])⟩) (by decide) (by decide)).mono ?_
  rintro e w5 ⟨rfl, q5⟩
  rw [decide_eq_true rfl]
  have HQ5 : Hid (Q w4 w5) := ((Q.refl w4).cells _ _).trans q5
  clear q5
  go_wp2_with fail
  refine (same_any v2 _ [(0, 52224), (1, 13312)] [(0, 52224), (1, 13312)] (w5.alloc (.cells #[.int .i64 0, .int .i64 52224, .int .i64 1, .int .i64 13312] 56)) (T2.out.next (HQ5.out.cells _ _)) (Or.inl ⟨w5.heap.size, 0, 2, rfl, fun i e hi => by
    have : i = 0 ∨ i = 1 := by have := (List.getElem?_eq_some_iff.1 hi).1; simp at this; omega
    rcases this with rfl | rfl <;> (cases hi; simp [go_sem])⟩) (by decide) (by decide)).mono ?_
  rintro e w6 ⟨rfl, q6⟩
  rw [decide_eq_true rfl]
  have HQ6 : Hid (Q w4 w6) := (HQ5.out.cells _ _).trans q6
  clear q6 HQ5
  go_wp2_with fail
  refine (ints_any _ _ [21846, 21845, 21845] [21846, 21845, 21845] (w6.alloc (.cells #[.int .i64 21846, .int .i64 21845, .int .i64 21845] 3)) (T3.out.next (HQ6.out.cells _ _)) (Or.inl ⟨w6.heap.size, 0, 3, rfl, fun i hi => by
    have : i = 0 ∨ i = 1 ∨ i = 2 := by simp at hi; omega
    rcases this with rfl | rfl | rfl <;> simp [go_sem]⟩) (by decide) (by decide)).mono ?_
  rintro e w7 ⟨rfl, q7⟩
  rw [decide_eq_true rfl]
  have HQ7 : Hid (Q w4 w7) := (HQ6.out.cells _ _).trans q7
  clear q7 HQ6
  go_wp2_with fail
  refine (ints_any v4 _ [1, 4, 6, 4, 1] [1, 4, 6, 4, 1] (w7.alloc (.cells #[.int .i64 1, .int .i64 4, .int .i64 6, .int .i64 4, .int .i64 1] 3)) (T4.out.next (HQ7.out.cells _ _)) (Or.inl ⟨w7.heap.size, 0, 5, rfl, fun i hi => by
    have : i = 0 ∨ i = 1 ∨ i = 2 ∨ i = 3 ∨ i = 4 := by simp at hi; omega
    rcases this with rfl | rfl | rfl | rfl | rfl <;> simp [go_sem]⟩) (by decide) (by decide)).mono ?_
  rintro e w8 ⟨rfl, q8⟩
  rw [decide_eq_true rfl]
  have HQ8 : Hid (Q w4 w8) := (HQ7.out.cells _ _).trans q8
  clear q8 HQ7
  go_wp2_with fail
  go_ret
  exact ⟨rfl, HQ4.out.trans HQ8.out⟩
end Go.Proofs.Ytdbbpmadkhedlaa
/- The document's Taps: what it refuses. -/
namespace Go.Proofs.Ytdbbpmadkhedlaa
open Go.RowKit
set_option linter.unusedVariables false
set_option linter.unusedSimpArgs false

set_option maxHeartbeats 4000000 in
set_option maxRecDepth 100000 in
theorem rtaps_bad (kind F T i : Int) (w : World) (hE : tapE kind F T i ≠ 0) :
    Calls Try.prog 7 #[.int .i64 kind, .int .i64 F, .int .i64 T, .int .i64 i] w fun e w' => e = .returned (.tuple #[.slice none 0 0, .int .i64 (tapE kind F T i)]) ∧ w' = w := by
  have E : Hid (tapE kind F T i = if 1 ≤ kind ∧ kind ≤ 3 then (if (1 ≤ F ∧ F ≤ 1024) ∧ (1 ≤ T ∧ T ≤ 1024) ∧ 0 ≤ i ∧ i < T then (if F ≤ 15 * T then 0 else 92) else 91) else 90) := rfl
  rw [E.out] at hE ⊢
  clear E
  have HR : Hid (∀ (k : Int) (W : World) (B : Bool), decide (1 ≤ k ∧ k ≤ 1024) = B → Calls Try.prog 21 #[.int .i64 k] W fun e w' => e = .returned (.bool B) ∧ w' = W) := fun k W B h => by rw [← h]; exact r9size_any k W
  by_cases hk : 1 ≤ kind ∧ kind ≤ 3
  · rw [if_pos hk] at hE ⊢
    have k1 : ¬ kind < 1 := by omega
    have k2 : ¬ 3 < kind := by omega
    by_cases hf : 1 ≤ F ∧ F ≤ 1024
    · by_cases ht : 1 ≤ T ∧ T ≤ 1024
      · have HD : Hid _ := And.intro (decide_eq_true hf) (decide_eq_true ht)
        by_cases h0 : 0 ≤ i
        · by_cases hi : i < T
          · rw [if_pos ⟨hf, ht, h0, hi⟩] at hE ⊢
            by_cases hft : F ≤ 15 * T
            · rw [if_pos hft] at hE; exact absurd rfl hE
            · rw [if_neg hft]
              have a1 : ¬ i < 0 := by omega
              have a2 : ¬ T ≤ i := by omega
              have a3 : 15 * T < F := by omega
              obtain ⟨t1, t2⟩ := ht
              clear hE hk hf hft h0
              go_enter Try.func7, Try.ntmps7
              go_wp2_with (go_at_call 21; first | (refine (HR.out F _ true HD.out.1).mono ?_; rintro e w' ⟨rfl, rfl⟩) | (refine (HR.out T _ true HD.out.2).mono ?_; rintro e w' ⟨rfl, rfl⟩))
              go_ret2
              exact ⟨rfl, rfl⟩
          · rw [if_neg (fun h => hi h.2.2.2)]
            have a1 : ¬ i < 0 := by omega
            have a2 : T ≤ i := by omega
            clear hE hk hf ht h0 hi
            go_enter Try.func7, Try.ntmps7
            go_wp2_with (go_at_call 21; first | (refine (HR.out F _ true HD.out.1).mono ?_; rintro e w' ⟨rfl, rfl⟩) | (refine (HR.out T _ true HD.out.2).mono ?_; rintro e w' ⟨rfl, rfl⟩))
            go_ret2
            exact ⟨rfl, rfl⟩
        · rw [if_neg (fun h => h0 h.2.2.1)]
          have a1 : i < 0 := by omega
          clear hE hk hf ht h0
          go_enter Try.func7, Try.ntmps7
          go_wp2_with (go_at_call 21; first | (refine (HR.out F _ true HD.out.1).mono ?_; rintro e w' ⟨rfl, rfl⟩) | (refine (HR.out T _ true HD.out.2).mono ?_; rintro e w' ⟨rfl, rfl⟩))
          go_ret2
          exact ⟨rfl, rfl⟩
      · rw [if_neg (fun h => ht h.2.1)]
        have HD : Hid _ := And.intro (decide_eq_true hf) (decide_eq_false ht)
        clear hE hk hf ht
        go_enter Try.func7, Try.ntmps7
        go_wp2_with (go_at_call 21; first | (refine (HR.out F _ true HD.out.1).mono ?_; rintro e w' ⟨rfl, rfl⟩) | (refine (HR.out T _ false HD.out.2).mono ?_; rintro e w' ⟨rfl, rfl⟩))
        go_ret2
        exact ⟨rfl, rfl⟩
    · rw [if_neg (fun h => hf h.1)]
      have HD : Hid _ := And.intro (decide_eq_false hf) (decide_eq_false hf)
      clear hE hk hf
      go_enter Try.func7, Try.ntmps7
      go_wp2_with (go_at_call 21; first | (refine (HR.out F _ false HD.out.1).mono ?_; rintro e w' ⟨rfl, rfl⟩))
      go_ret2
      exact ⟨rfl, rfl⟩
  · rw [if_neg hk]
    by_cases k1 : kind < 1
    · clear hE hk HR
      go_enter Try.func7, Try.ntmps7
      go_wp2_with fail
      go_ret2
      exact ⟨rfl, rfl⟩
    · have k2 : 3 < kind := by omega
      clear hE hk HR
      go_enter Try.func7, Try.ntmps7
      go_wp2_with fail
      go_ret2
      exact ⟨rfl, rfl⟩
end Go.Proofs.Ytdbbpmadkhedlaa
/- The document's Taps, of sizes that may be. -/
namespace Go.Proofs.Ytdbbpmadkhedlaa
open Go.RowKit
set_option linter.unusedVariables false
set_option linter.unusedSimpArgs false

theorem anyT_none {zs : List Int} (h : ∀ e ∈ zs, -1099511627776 ≤ e ∧ e ≤ 1099511627776) : ∀ k, k ≤ zs.length → anyT zs k = false
  | 0, _ => rfl
  | k + 1, hk => by
    show (anyT zs k || tooB (zs.getD k 0)) = false
    have hm := h zs[k] (List.getElem_mem (by omega))
    rw [anyT_none h k (by omega), List.getD_eq_getElem?_getD, List.getElem?_eq_getElem (by omega), Option.getD_some, tooB_of (by omega) (by omega)]; rfl
theorem wgtR_size {kind m a : Int} (m0 : 1 ≤ m) (m1 : m ≤ 1024) : -17179869184 ≤ wgtR kind a (2 * m) ∧ wgtR kind a (2 * m) ≤ 17179869184 := by
  have b0 : 0 ≤ 2 * m := by omega
  have b1 : 2 * m ≤ 2048 := by omega
  have m2 := mul_bd b0 b1 b0 b1
  have m3 := mul_bd m2.1 m2.2 b0 b1
  have ha : 0 ≤ absI a := by unfold absI; omega
  have e5 : 2 * (2 * m) * (2 * m) = 2 * (2 * m * (2 * m)) := Int.mul_assoc _ _ _
  have e6 : 2 * (2 * m * (2 * m)) * (2 * m) = 2 * (2 * m * (2 * m) * (2 * m)) := Int.mul_assoc _ _ _
  unfold wgtR
  split
  · split
    · rw [e5, e6]; omega
    · omega
  · split
    · split
      · rename_i h
        have := mul_bd (x := 2 * (2 * m * (2 * m))) (X := 8388608) (y := 2 * m - absI a) (Y := 2048) (by omega) (by omega) (by omega) (by omega)
        rw [e5]; omega
      · omega
    · exact cub_size ha b0 b1
theorem tms_bound {kind : Int} {F T i : Nat} (hk : kind = 1 ∨ kind = 2 ∨ kind = 3) (h : Sz F T i) : ∀ e ∈ tms (mulR kind (max F T : Nat)) (wlsV kind F T i), -1099511627776 ≤ e.2 ∧ e.2 ≤ 1099511627776 := by
  intro e he
  have hm : 0 < ((max F T : Nat) : Int) := by have := h.f1; omega
  have hw := (win_facts (kind := kind) h).2.1
  have hn : winV kind F T i ≤ 62 := by unfold winV; omega
  unfold wlsV at he
  rw [← wrun_tms (f := wfV kind F T i) (g := wfR kind F T i) (Int.ne_of_gt (mulR_pos hm)) (fun k => wgtR_eq hk)] at he
  have := wrun_bound (f := wfR kind F T i) (pl := plV F) (a := fstV kind F T i) (B := 17179869184) (by decide) (fun k => wgtR_size (by omega) (by have := h.f2; have := h.t2; omega)) (winV kind F T i) e he
  have h62 : (winV kind F T i : Int) * 17179869184 ≤ 62 * 17179869184 := Int.mul_le_mul_of_nonneg_right (by omega) (by decide)
  omega
theorem rea_tdiv {m T : Nat} (hT : 1 ≤ T) : (2 * (m : Int)).tdiv (T : Int) = 2 * (m : Int) / (T : Int) := Int.tdiv_eq_ediv_of_nonneg (by omega)
set_option maxHeartbeats 8000000 in
set_option maxRecDepth 1000000 in
theorem rtaps_good (kind : Int) (F T i : Nat) (w : World) (hk : kind = 1 ∨ kind = 2 ∨ kind = 3) (h : Sz F T i) :
    Calls Try.prog 7 #[.int .i64 kind, .int .i64 (F : Int), .int .i64 (T : Int), .int .i64 (i : Int)] w fun e w' => ∃ v n, e = .returned (.tuple #[v, .int .i64 0]) ∧ Tl w w' v (tapsL (wlsV kind F T i)) n := by
  have SF := r9size_any (F : Int) w
  have ST := r9size_any (T : Int) w
  rw [decide_eq_true (by have := h.f1; have := h.f2; omega)] at SF
  rw [decide_eq_true (by have := h.t1; have := h.t2; omega)] at ST
  have k1 : ¬ kind < 1 := by omega
  have k2 : ¬ 3 < kind := by omega
  have a1 : ¬ (i : Int) < 0 := by omega
  have a2 : ¬ (T : Int) ≤ (i : Int) := by have := h.i; omega
  have a3 : ¬ 15 * (T : Int) < (F : Int) := by have := h.ft; omega
  have hmx : ∀ (ts : Array TypeId) (t : TypeId) (w : World), (Builtin.max_ ts t #[.int .i64 (F : Int), .int .i64 (T : Int)]).run Try.prog w = .ok (.int .i64 ((max F T : Nat) : Int)) w := fun ts t w => by
    rw [run_mx2]; congr 2; omega
  obtain ⟨M1, M2⟩ := mid_size h
  obtain ⟨R1, R2, _⟩ := reaR_bd h
  have hm1 : 1 ≤ max F T := by have := h.f1; omega
  have hm2 : max F T ≤ 1024 := by have := h.f2; have := h.t2; omega
  have etd := rea_tdiv (m := max F T) (T := T) h.t1
  have eRR : 2 * ((max F T : Nat) : Int) / (T : Int) + 2 = reaR F T := rfl
  have HMd : Hid (midV F T i / (2 * (T : Int)) = midR F T i) := rfl
  have HWl := wls_doc hk h
  have HBd : Hid (∀ j, j ≤ 100 → ∀ e ∈ wrun (wfR kind F T i) (plV F) (midR F T i - reaR F T) j, -1717986918400 ≤ e.2 ∧ e.2 ≤ 1717986918400) := fun j hj e he => by
    have := wrun_bound (f := wfR kind F T i) (pl := plV F) (a := midR F T i - reaR F T) (B := 17179869184) (by decide) (fun k => wgtR_size (by omega) (by omega)) j e he
    omega
  have HWs : Hid (∀ k, -17179869184 ≤ wfR kind F T i k ∧ wfR kind F T i k ≤ 17179869184) := fun k => wgtR_size (by omega) (by omega)
  have HDw : Hid (∀ k, midR F T i - reaR F T ≤ k → k ≤ midR F T i + 1 + reaR F T → -81920 ≤ 2 * (T : Int) * k - midV F T i ∧ 2 * (T : Int) * k - midV F T i ≤ 81920) := fun k x1 x2 => by have := mid_win h k x1 x2; omega
  have HCk : Hid (∀ (k d : Int) (W : World), d = 2 * (T : Int) * k - midV F T i → -81920 ≤ d → d ≤ 81920 → Calls Try.prog 23 #[.int .i64 kind, .int .i64 d, .int .i64 (2 * ((max F T : Nat) : Int))] W fun e w' => e = .returned (.int .i64 (wfR kind F T i k)) ∧ w' = W) := fun k d W hd h1 h2 => by
    have := rweight_any kind d (2 * ((max F T : Nat) : Int)) W hk h1 h2 (by omega) (by omega)
    rw [hd] at this ⊢
    exact this
  have HT := tapsL_tms (l := mulR kind (max F T : Nat)) (mulR_pos (by omega)) (wlsV kind F T i)
  have hLb := tms_bound hk h
  have hLs : 0 < sndSum (tms (mulR kind (max F T : Nat)) (wlsV kind F T i)) := by rw [sndSum_tms]; exact Int.mul_pos (mulR_pos (by omega)) (wls_pos hk h)
  have hLl : (tms (mulR kind (max F T : Nat)) (wlsV kind F T i)).length ≤ 62 := by rw [tms_len]; exact (wls_bound h).1
  rw [← HT]
  rw [← HWl] at HT hLb hLs hLl ⊢
  obtain ⟨N, hN⟩ : ∃ N : Nat, nR F T = N := ⟨_, rfl⟩
  have hNR : 2 * reaR F T + 2 = (N : Int) := by rw [← hN]; unfold nR; omega
  rw [hN] at HT hLb hLs hLl ⊢
  obtain ⟨mx, hmm⟩ : ∃ mx : Nat, max F T = mx := ⟨_, rfl⟩
  rw [hmm] at hmx HCk etd eRR hm1 hm2
  obtain ⟨rq, hrq⟩ : ∃ rq, 2 * (mx : Int) / (T : Int) = rq := ⟨_, rfl⟩
  rw [hrq] at etd eRR
  obtain ⟨re, hre⟩ : ∃ re, reaR F T = re := ⟨_, rfl⟩
  rw [hre] at eRR R1 R2 hNR HDw HBd HT hLb hLs hLl ⊢
  obtain ⟨mi, hmi⟩ : ∃ mi, midV F T i = mi := ⟨_, rfl⟩
  have hmi' : (2 * (i : Int) + 1) * (F : Int) - (T : Int) = mi := hmi
  rw [hmi] at M1 M2 HMd HDw HCk
  obtain ⟨md, hmd⟩ : ∃ md, midR F T i = md := ⟨_, rfl⟩
  rw [hmd] at HMd HDw HBd HT hLb hLs hLl ⊢
  obtain ⟨pr, hpr⟩ : ∃ pr, (2 * (i : Int) + 1) * (F : Int) = pr := ⟨_, rfl⟩
  rw [hpr] at hmi'
  obtain ⟨st, hst⟩ : ∃ st : Int, 2 * (T : Int) = st := ⟨_, rfl⟩
  rw [hst] at HMd HDw HCk
  obtain ⟨f1, f2, t1, t2, hi, ft⟩ := h
  obtain ⟨F1, hF1⟩ : ∃ F1 : Nat, F = F1 + 1 := ⟨F - 1, by omega⟩
  have eF1 : (F : Int) - 1 = (F1 : Int) := by omega
  have hst1 : 0 < st := by omega
  have hst2 : st ≤ 2048 := by omega
  have HP : Hid (∀ k, plV F k = min (max k 0) (F1 : Int)) := fun k => by unfold plV; rw [eF1]
  have Cf := rfloor_any mi st w hst1 (by omega) (by omega) (by omega)
  rw [HMd.out] at Cf
  have d0 := HDw.out md (by omega) (by omega)
  have hmd1 : -90000 ≤ md := lo_of (B := 90000) (s := st) (by omega) (by decide) (by omega)
  have hmd2 : md ≤ 2200000 := hi_of (B := 2200000) (s := st) (by omega) (by decide) (by omega)
  have hpr1 : -2048 ≤ pr := by omega
  have hpr2 : pr ≤ 4194304 := by omega
  have hT0 : ¬ (T : Int) = 0 := by omega
  have hT0' : ((T : Int) == 0) = false := by simp; omega
  have hrq1 : 2 ≤ rq := by omega
  have hrq2 : rq ≤ 30 := by omega
  generalize hwf : wfR kind F T i = wf at *
  have HLL : Hid ((∀ e ∈ wrun wf (plV F) (md - re) N, -1099511627776 ≤ e.2 ∧ e.2 ≤ 1099511627776) ∧ 0 < sndSum (wrun wf (plV F) (md - re) N) ∧ (wrun wf (plV F) (md - re) N).length ≤ 62) := ⟨hLb, hLs, hLl⟩
  obtain ⟨fs, hfs⟩ : ∃ fs, md - re = fs := ⟨_, rfl⟩
  rw [hfs] at HDw HBd HLL ⊢
  have hNf : fs + (N : Int) = md + 1 + re + 1 := by omega
  have hN2 : N ≤ 66 := by omega
  clear hLb hLs hLl HT HWl hwf hmi hmd hre hrq hN hF1 hmm d0 HMd hk
  go_enter Try.func7, Try.ntmps7
  go_wp2_with (first | (go_at_call 21; first | (refine SF.mono ?_; rintro e w' ⟨rfl, hw⟩; obtain rfl := hw.symm; clear hw) | (refine ST.mono ?_; rintro e w' ⟨rfl, hw⟩; obtain rfl := hw.symm; clear hw)) | (go_at_call 22; refine Cf.mono ?_; rintro e w' ⟨rfl, hw⟩; obtain rfl := hw.symm; clear hw))
  clear SF ST Cf hmx
  go_loopg [13, 14, 15] N (fun gh s13 s14 s15 wr => ∃ (j n : Nat) (k : Int) (aP aW : Option Addr) (cP cW : Nat), s13 = .slice aP n cP ∧ s14 = .slice aW n cW ∧ s15 = .int .i64 k ∧ Hid (fs + (j : Int) = k) ∧ j ≤ N ∧ gh = N - j ∧ n ≤ j ∧ Hid (Wl w wr (.slice aP n cP) (.slice aW n cW) (wrun wf (plV F) fs j) n))
  case atStart => exact ⟨0, 0, fs, none, none, 0, 0, rfl, rfl, rfl, (show fs + ((0 : Nat) : Int) = fs by omega), Nat.zero_le _, rfl, Nat.le_refl _, Wl.start w⟩
  case round =>
    obtain ⟨j, n, k, aP, aW, cP, cW, rfl, rfl, rfl, HK, hj, rfl, hnj, HL⟩ := hrel
    by_cases hlt : j < N
    · have hk0 := HK.out
      have hkl : k ≤ md + 1 + re := by omega
      obtain ⟨pq, hpq⟩ : ∃ pq, st * k = pq := ⟨_, rfl⟩
      obtain ⟨d, hd⟩ : ∃ d, pq - mi = d := ⟨_, rfl⟩
      have bd := HDw.out k (by omega) (by omega)
      rw [hpq, hd] at bd
      obtain ⟨bd1, bd2⟩ := bd
      have bp1 : -16777216 ≤ pq := by omega
      have bp2 : pq ≤ 16777216 := by omega
      have bk1 : -100000 ≤ k := by omega
      have bk2 : k ≤ 2201248 := by omega
      have hd2 : pq - pr + (T : Int) = d := by omega
      have C := HCk.out k d wr (by rw [hpq, hd]) bd1 bd2
      obtain ⟨nn, hnn⟩ : ∃ nn, wf k = nn := ⟨_, rfl⟩
      rw [hnn] at C
      have bn := HWs.out k
      rw [hnn] at bn
      obtain ⟨bn1, bn2⟩ := bn
      have HX : Hid (wrun wf (plV F) fs (j + 1) = wput (wrun wf (plV F) fs j) (plV F k) nn) := by
        show wput (wrun wf (plV F) fs j) (plV F (fs + j)) (wf (fs + j)) = _
        rw [hk0, hnn]
      have HBj := HBd.out j (by omega)
      have HBJ : Hid _ := HBj
      have HK2 : Hid (fs + ((j + 1 : Nat) : Int) = k + 1) := by show fs + ((j + 1 : Nat) : Int) = k + 1; omega
      clear HBj hnn hk0 hd HK
      go_wp2_with fail
      refine C.mono ?_
      rintro e w5 ⟨rfl, hw⟩
      obtain rfl := hw.symm
      clear C hw
      by_cases hz : nn = 0
      · subst hz
        have HL6 : Hid (Wl w wr (.slice aP n cP) (.slice aW n cW) (wrun wf (plV F) fs (j + 1)) n) := by rw [HX.out, wput_zero]; exact HL.out
        clear HL HX
        go_wp2_with fail
        go_roundg (N - (j + 1))
        case measure => go_light; omega
        case rel => go_light; exact ⟨j + 1, n, k + 1, aP, aW, cP, cW, rfl, rfl, rfl, HK2, by omega, rfl, by omega, HL6⟩
      · have hz' : (nn == 0) = false := by simpa using hz
        have hmxk : ∀ (ts : Array TypeId) (t : TypeId) (w : World), (Builtin.max_ ts t #[.int .i64 k, .int .i64 0]).run Try.prog w = .ok (.int .i64 (max k 0)) w := fun ts t w => run_mx2 ts t _ _ w
        obtain ⟨mk, hmk⟩ : ∃ mk, max k 0 = mk := ⟨_, rfl⟩
        rw [hmk] at hmxk
        have hmnk : ∀ (ts : Array TypeId) (t : TypeId) (w : World), (Builtin.min_ ts t #[.int .i64 mk, .int .i64 (F1 : Int)]).run Try.prog w = .ok (.int .i64 (min mk (F1 : Int))) w := fun ts t w => run_mn2 ts t _ _ w
        obtain ⟨p, hp⟩ : ∃ p, min mk (F1 : Int) = p := ⟨_, rfl⟩
        rw [hp] at hmnk
        have hpl : plV F k = p := by rw [HP.out k, hmk, hp]
        rw [hpl] at HX
        clear hmk hp hpl
        rcases wput_cases (wrun wf (plV F) fs j) p nn with ⟨_, e⟩ | ⟨_, he, hne⟩ | ⟨M, x, _, hM, he⟩
        · exact absurd e hz
        · -- a new place
          obtain ⟨gP, c2, x2, gW, c4, x4, r1, r2, HN6⟩ := HL.out.app p nn (by omega)
          have HL6 : Hid (Wl w x4 (.slice (some ⟨gP, 0, none⟩) (n + 1) c2) (.slice (some ⟨gW, 0, none⟩) (n + 1) c4) (wrun wf (plV F) fs (j + 1)) (n + 1)) := by rw [HX.out, he]; exact HN6
          clear HN6
          by_cases hn0 : n = 0
          · subst hn0
            clear HL HX hne he
            go_wp2_with (at_builtin; go_must (first | refine wpList_appK (.tmp 127) (.tmp 129) 51 rfl rfl (by simp [Act.eval, Act.put]) (by simp [Act.eval, Act.put]) r1 ?_ | refine wpList_appK (.tmp 131) (.tmp 133) 51 rfl rfl (by simp [Act.eval, Act.put]) (by simp [Act.eval, Act.put]) r2 ?_))
            go_roundg (N - (j + 1))
            case measure => go_light; omega
            case rel => go_light; exact ⟨j + 1, 0 + 1, k + 1, _, _, _, _, rfl, rfl, rfl, HK2, by omega, rfl, by omega, HL6⟩
          · obtain ⟨n', hn'⟩ : ∃ n', n = n' + 1 := ⟨n - 1, by omega⟩
            have en' : (n : Int) - 1 = (n' : Int) := by omega
            have hlen := HL.out.len
            obtain ⟨M, ⟨pp, xx⟩, hM⟩ : ∃ M e, wrun wf (plV F) fs j = M ++ [e] := by
              have hne0 : wrun wf (plV F) fs j ≠ [] := fun e => by rw [e] at hlen; exact hn0 hlen
              exact ⟨_, _, (List.dropLast_concat_getLast hne0).symm⟩
            have hpp : pp ≠ p := hne (pp, xx) (by rw [hM]; simp)
            rw [hM] at HL
            obtain ⟨g1, d1, g2, d2, e1, e2, e3, k1, k2, k3, _⟩ := HL.out.last
            injection e1 with e1a e1b e1c
            injection e2 with e2a e2b e2c
            subst e1a e1c e2a e2c
            have hM1 : M.length = n' := by omega
            rw [hM1] at k1
            have hpp' : (pp == p) = false := by simpa using hpp
            have hn2 : (0 : Int) ≤ (n' : Int) := by omega
            have hn3 : (n' : Int) < (n : Int) := by omega
            have hn4 : n' < n := by omega
            have hn5 : 0 < n := by omega
            have hn6 : (0 : Int) < (n : Int) := by omega
            clear HL HX hne he hlen hM e3 k2 k3 e1b e2b hM1 hn'
            go_wp2_with (at_builtin; go_must (first | refine wpList_appK (.tmp 127) (.tmp 129) 51 rfl rfl (by simp [Act.eval, Act.put]) (by simp [Act.eval, Act.put]) r1 ?_ | refine wpList_appK (.tmp 131) (.tmp 133) 51 rfl rfl (by simp [Act.eval, Act.put]) (by simp [Act.eval, Act.put]) r2 ?_))
            go_roundg (N - (j + 1))
            case measure => go_light; omega
            case rel => go_light; exact ⟨j + 1, n + 1, k + 1, _, _, _, _, rfl, rfl, rfl, HK2, by omega, rfl, by omega, HL6⟩
        · -- the last place again
          have bx := HBJ.out (p, x) (by rw [hM]; simp)
          simp only at bx
          obtain ⟨bx1, bx2⟩ := bx
          rw [hM] at HL
          obtain ⟨g1, d1, g2, d2, e1, e2, e3, k1, k2, k3, kS⟩ := HL.out.last
          injection e1 with e1a e1b e1c
          injection e2 with e2a e2b e2c
          subst e1a e1c e2a e2c
          obtain ⟨n', hM1⟩ : ∃ n', M.length = n' := ⟨_, rfl⟩
          rw [hM1] at k1 k2 k3 kS e3
          have en' : (n : Int) - 1 = (n' : Int) := by omega
          have hn2 : (0 : Int) ≤ (n' : Int) := by omega
          have hn3 : (n' : Int) < (n : Int) := by omega
          have hn4 : n' < n := by omega
          have hn5 : 0 < n := by omega
          have hn6 : (0 : Int) < (n : Int) := by omega
          have hpp' : (p == p) = true := by simp
          have HL6 : Hid (Wl w (wr.setCell ⟨g2, n', none⟩ (.int .i64 (x + nn))) (.slice (some ⟨g1, 0, none⟩) n cP) (.slice (some ⟨g2, 0, none⟩) n cW) (wrun wf (plV F) fs (j + 1)) n) := by rw [HX.out, he]; exact kS (x + nn)
          clear HL HX he hM kS e3 e1b e2b hM1
          go_wp2_with fail
          generalize wr.setCell ⟨g2, n', none⟩ (.int .i64 (x + nn)) = w6 at HL6 ⊢
          go_roundg (N - (j + 1))
          case measure => go_light; omega
          case rel => go_light; exact ⟨j + 1, n, k + 1, _, _, _, _, rfl, rfl, rfl, HK2, by omega, rfl, by omega, HL6⟩
    · have hkl : ¬ k ≤ md + 1 + re := by have := HK.out; omega
      obtain rfl : j = N := by omega
      clear HK
      obtain ⟨hb1, hb2, hb3⟩ := HLL.out
      generalize hLe : wrun wf (plV F) fs j = L at HL hb1 hb2 hb3 ⊢
      have hlen := HL.out.len
      have hL0 : 1 ≤ L.length := by
        cases L with
        | nil => exact absurd hb2 (by decide)
        | cons _ _ => simp
      have Csh := rshare_good (.slice aW n cW) (L.map Prod.snd) wr (own_isl HL.out.w (by rw [List.length_map]; exact hlen.symm)) ⟨by rw [List.length_map]; exact hL0, by rw [List.length_map]; omega, anyT_none (fun e he => by
        obtain ⟨x, hx, rfl⟩ := List.mem_map.1 he
        exact hb1 x hx) _ (Nat.le_refl _), by rw [List.length_map, ← sndSum_zf]; exact hb2⟩
      rw [List.length_map, ← hlen] at Csh
      have HT : Hid (tapsL L = tpK L (shrV (zf (L.map Prod.snd)) n) n) := by show tapsL L = _; unfold tapsL; rw [← hlen]
      generalize shrV (zf (L.map Prod.snd)) n = sh at Csh HT
      have HLn : Hid (n = L.length) := hlen
      have hn62 : n ≤ 62 := by omega
      have HLE : Hid (wrun wf (plV F) fs j = L) := hLe
      clear hlen hL0 hb1 hb2 hb3 hLe HBd HWs HDw HCk HLL HP etd
      go_wp2_with fail
      refine Csh.mono ?_
      rintro e w4 ⟨g, rfl, hg, hrow, q4⟩
      have HR : Hid (IRow w4 g (tabI n sh)) := hrow
      have HW4 : Hid (Wl w w4 (.slice aP n cP) (.slice aW n cW) L n) := HL.out.next q4
      have HQ4 : Hid (Q w w4) := HL.out.q.trans q4
      clear Csh hg hrow q4 HL
      go_wp2_with fail
      go_loopg [20, 21] n (fun gh s20 s21 wr => ∃ (j k : Nat) (ad : Option Addr) (c : Nat), s20 = .slice ad k c ∧ s21 = .int .i64 (j : Int) ∧ j ≤ n ∧ gh = n - j ∧ k ≤ j ∧ Hid (Tl w4 wr (.slice ad k c) (tpK L sh j) k))
      case atStart => exact ⟨0, 0, none, 0, rfl, rfl, Nat.zero_le _, rfl, Nat.le_refl _, Tl.start w4⟩
      case round =>
        obtain ⟨j, k, ad, c, rfl, rfl, hj, rfl, hkj, HL⟩ := hrel
        by_cases hlt : j < n
        · have hltz : (j : Int) < (n : Int) := by omega
          have c1 := HL.out.q.cell (HR.out.cell j _ (tabI_at hlt))
          obtain ⟨x, hx⟩ : ∃ x, sh j = x := ⟨_, rfl⟩
          rw [hx] at c1
          by_cases hz : x = 0
          · subst hz
            have HL2 : Hid (Tl w4 wr (.slice ad k c) (tpK L sh (j + 1)) k) := by
              show Tl w4 wr _ (if sh j = 0 then tpK L sh j else _) k
              rw [if_pos hx]; exact HL.out
            clear HL hx
            go_wp2_with fail
            go_roundg (n - (j + 1))
            case measure => go_light; omega
            case rel => go_light; exact ⟨j + 1, k, ad, c, rfl, by simp, by omega, rfl, by omega, HL2⟩
          · have hz' : (x == 0) = false := by simpa using hz
            have hz2 : (x != 0) = true := by simpa using hz
            obtain ⟨e, he⟩ : ∃ e, L[j]? = some e := ⟨_, List.getElem?_eq_getElem (by have := HLn.out; omega)⟩
            obtain ⟨p, y⟩ := e
            obtain ⟨gP, rfl⟩ : ∃ gP, aP = some ⟨gP, 0, none⟩ := by
              rcases HW4.out.p.2 with ⟨_, e⟩ | ⟨g', c', cur, e1, _⟩
              · omega
              · injection e1 with e1; exact ⟨g', e1⟩
            have c2 := HL.out.q.cell (own_at HW4.out.p (i := j) (z := p) (by rw [List.getElem?_map, he]; rfl) (by rw [List.length_map]; exact HLn.out.symm))
            have HLe : Hid (sh j = x ∧ L[j]? = some (p, y)) := ⟨hx, he⟩
            have n0 := qw_some wr
            have f0 := qw_cell c1
            have f1 := qw_cell c2
            clear hx he
            go_wp2_with fail
            refine wp_region_mk [0, 1, 2, 3, 4, 5, 6, 7, 8, 9] [[10, 11, 12]] 3 _ (by kernel_rfl) (by kernel_rfl) rfl (by kernel_rfl) ?_
            simp only [List.filterMap_cons, List.filterMap_nil, List.getElem?_cons_zero, List.getElem?_cons_succ]
            repeat (first | go_big_quiet_step (fail) | quiet_step (fail))
            refine wpQuiet_nil ?_
            intro x5 hx5
            clear f0 f1 n0 c1 c2
            obtain ⟨g2, c3, x6, r1, HN⟩ := (HL.out.next hx5).app p x (by omega)
            have HL2 : Hid (Tl w4 x6 (.slice (some ⟨g2, 0, none⟩) (k + 1) c3) (tpK L sh (j + 1)) (k + 1)) := by
              show Tl w4 x6 _ (if sh j = 0 then tpK L sh j else tpK L sh j ++ [((L.getD j (0, 0)).1, sh j)]) (k + 1)
              rw [if_neg (by rw [HLe.out.1]; exact hz), HLe.out.1, List.getD_eq_getElem?_getD, HLe.out.2]
              exact HN
            refine tree_run 10 rfl rfl (v := .slice (some ⟨x5.heap.size, 0, none⟩) 1 1) (x' := x5.alloc (.cells #[.int .i64 p, .int .i64 x] 56)) (by simp [execOp, go_sem]) (hx5.cells _ _) ?_
            refine tree_runF 11 rfl rfl rfl (v := .slice (some ⟨g2, 0, none⟩) (k + 1) c3) (x' := x6) (by simp [execOp, resolve, invoke, builtin, Act.eval, Act.put, r1]) ?_
            refine tree_runF 12 rfl rfl rfl (v := .slice (some ⟨g2, 0, none⟩) (k + 1) c3) (x' := x6) (by simp [execOp, go_sem]) ?_
            refine tree_nil ?_
            clear HN r1 hx5 HL HLe
            go_wp2_with fail
            go_roundg (n - (j + 1))
            case measure => go_light; omega
            case rel => go_light; exact ⟨j + 1, k + 1, _, _, rfl, by simp, by omega, rfl, by omega, HL2⟩
        · have hge : ¬ (j : Int) < (n : Int) := by omega
          obtain rfl : j = n := by omega
          go_wp2_with fail
          go_ret2
          exact ⟨_, rfl, k, by rw [HLE.out, HT.out]; exact HL.out.base HQ4.out⟩
end Go.Proofs.Ytdbbpmadkhedlaa
