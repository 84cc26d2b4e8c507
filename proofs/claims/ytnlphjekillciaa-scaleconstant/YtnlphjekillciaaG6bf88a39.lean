/- The document's Share, of weights that may be. -/
import Derived.Test.YtnlphjekillciaaGaad2a221
import Derived.Test.YtnlphjekillciaaG24e54ee9
import Derived.Test.YtnlphjekillciaaGb051e343
import Derived.Test.YtnlphjekillciaaGb930bb3d
namespace Go.Proofs.Ytnlphjekillciaa
open Go.RowKit
set_option linter.unusedVariables false
set_option linter.unusedSimpArgs false

set_option maxHeartbeats 4000000 in
set_option maxRecDepth 100000 in
theorem rshare_good (v : Value) (zs : List Int) (w : World) (hv : ISl w v zs) (hs : shOk zs) :
    Calls Try.prog 42 #[v] w fun e w' => ∃ g, e = .returned (.tuple #[.slice (some ⟨g, 0, none⟩) zs.length zs.length, .int .i64 0]) ∧ w.heap.size ≤ g ∧ IRow w' g (tabI zs.length (shrV (zf zs) zs.length)) ∧ Q w w' := by
  obtain ⟨s1, s2, s3, s4⟩ := hs
  obtain ⟨gw, ow, cw, rfl, hcw⟩ := hv.some s1
  have hm := anyT_all s3
  obtain ⟨N, eN⟩ : ∃ N, zs.length = N := ⟨_, rfl⟩
  obtain ⟨S, eS⟩ : ∃ S, sumF (zf zs) N = S := ⟨_, rfl⟩
  have HM : Hid (∀ i, -1099511627776 ≤ zf zs i ∧ zf zs i ≤ 1099511627776) := hm
  have HC : Hid (∀ i, i < N → w.cell? ⟨gw, ow + i, none⟩ = some (.int .i64 (zf zs i))) := by rw [eN] at hcw; exact hcw
  have HS : Hid (sumF (zf zs) N = S) := eS
  have HA : Hid (∀ i, i < N → tooB (zf zs i) = false) := fun i hi => tooB_of (by have := hm i; show ¬ _ < zs.getD i 0; omega) (by have := hm i; show ¬ zs.getD i 0 < _; omega)
  have HB : Hid (∀ k : Nat, -((k : Int) * 1099511627776) ≤ sumF (zf zs) k ∧ sumF (zf zs) k ≤ (k : Int) * 1099511627776) := fun k => by
    have := sumI_size zs 1099511627776 (fun i => hm i) k
    rw [sumI_zf] at this
    exact this
  have hS : 0 < S := by rw [eN, eS] at s4; exact s4
  have hSb : S ≤ 4611686018427387904 := by
    have := (HB.out N).2
    rw [eS] at this
    rw [eN] at s2
    omega
  have hS' : ¬ S ≤ 0 := by omega
  have HFin : Hid (shrV (zf zs) N = shrK (zf zs) S N (missV (zf zs) S N).toNat) := by
    show shrV (zf zs) N = _
    unfold shrV
    rw [eS]
  rw [eN] at s1 s2 ⊢
  have h0' : ((N : Int) == 0) = false := by simp; omega
  have h0'' : ¬ (N : Int) = 0 := by omega
  have h1' : ¬ (64 : Int) < (N : Int) := by omega
  have hn' : N ≤ 1048576 := by omega
  clear hv hcw hm s3 s4 eN eS
  go_enter Try.func42, Try.ntmps42
  go_wp2_with fail
  go_loopg [4, 5] N (fun gh s4 s5 wr => ∃ (i : Nat) (T : Int), s4 = .int .i64 T ∧ s5 = .int .i64 (i : Int) ∧ i ≤ N ∧ gh = N - i ∧ Hid (T = sumF (zf zs) i) ∧ wr = w)
  case atStart => exact ⟨0, 0, rfl, rfl, Nat.zero_le _, rfl, rfl, rfl⟩
  case round =>
    obtain ⟨i, T, rfl, rfl, hi, rfl, HI, hwr⟩ := hrel
    obtain rfl := hwr.symm
    by_cases hlt : i < N
    · have hltz : (i : Int) < (N : Int) := by omega
      have c1 := HC.out i hlt
      obtain ⟨z, hz⟩ : ∃ z, z = zf zs i := ⟨_, rfl⟩
      have bz := HM.out i
      rw [← hz] at c1 bz
      have t1 : ¬ 1099511627776 < z := by omega
      have t2 : ¬ z < -1099511627776 := by omega
      have HI2 : Hid (T + z = sumF (zf zs) (i + 1)) := by
        show T + z = sumF (zf zs) i + zf zs i
        rw [HI.out, hz]
      have b1 := HB.out i
      have b2 := HB.out (i + 1)
      rw [← HI.out] at b1
      rw [← HI2.out] at b2
      have b3 : -4611686018427387904 ≤ T := by omega
      have b4 : T ≤ 4611686018427387904 := by omega
      have b5 : -9223372036854775808 ≤ T + z := by omega
      have b6 : T + z ≤ 9223372036854775807 := by omega
      clear b1 b2 hz bz
      go_wp2_with fail
      go_roundg (N - (i + 1))
      case measure => go_light; omega
      case rel => go_light; exact ⟨i + 1, T + z, rfl, by simp, by omega, rfl, HI2, rfl⟩
    · have hge : ¬ (i : Int) < (N : Int) := by omega
      obtain rfl : i = N := by omega
      obtain rfl : T = S := by rw [HI.out, HS.out]
      clear HI hge hlt hi
      go_wp2_with fail
      refine regionRs (B := w.heap.size) (ad := some ⟨gw, ow, none⟩) (n := i) (c := cw) rfl rfl ⟨rfl, hn', Nat.le_refl _⟩ ?_
      intro w2 g gr q2 l1 l2 ne b1 b2 r1 r2
      rw [normRs]
      have HD : Hid (Ds w w2 (partF (flo (zf zs) T) 0) (partF (fun j => rsV (zf zs) T j) 0) i g gr) := by
        have e : ∀ f : Nat → Int, List.replicate i (0 : Int) = tabI i (partF f 0) := fun f => by rw [tabI_zero]; exact tabI_congr (fun i _ => by simp [partF])
        exact ⟨q2, by rw [← e]; exact r1, by rw [← e]; exact r2, l1, l2, ne⟩
      clear q2 l1 l2 ne b1 b2 r1 r2
      go_wp2_with fail
      go_loopg [8, 9] i (fun gh s8 s9 wx => ∃ (j : Nat) (m : Int), s8 = .int .i64 m ∧ s9 = .int .i64 (j : Int) ∧ j ≤ i ∧ gh = i - j ∧ Hid (m = 65536 - sumF (flo (zf zs) T) j) ∧ Hid (Ds w wx (partF (flo (zf zs) T) j) (partF (fun j => rsV (zf zs) T j) j) i g gr))
      case atStart => exact ⟨0, 65536, rfl, rfl, Nat.zero_le _, rfl, rfl, HD⟩
      case round =>
        clear HD
        obtain ⟨j, m, rfl, rfl, hj, rfl, HMi, HD⟩ := hrel
        by_cases hlt : j < i
        · have hltz : (j : Int) < (i : Int) := by omega
          obtain ⟨z, hz⟩ : ∃ z, z = zf zs j := ⟨_, rfl⟩
          have bz := HM.out j
          have c1 := HD.out.q.cell (HC.out j hlt)
          rw [← hz] at c1 bz
          obtain ⟨bz1, bz2⟩ := bz
          have Cf := rfloor_any (65536 * z) T wr hS (by omega) (by omega) hSb
          obtain ⟨u, hu⟩ : ∃ u, u = flo (zf zs) T j := ⟨_, rfl⟩
          obtain ⟨r, hr⟩ : ∃ r, r = rsV (zf zs) T (j : Int) := ⟨_, rfl⟩
          have eu : 65536 * z / T = u := by rw [hu, hz]; rfl
          rw [eu] at Cf
          have bu := flo_size (z := zf zs) (i := j) hS (HM.out j)
          rw [← hu] at bu
          obtain ⟨bu1, bu2⟩ := bu
          have br1 := rs_nonneg (zf zs) hS (j : Int)
          have br2 := rs_lt (zf zs) hS (j : Int)
          rw [← hr] at br1 br2
          have efr := flo_rs (zf zs) T j
          rw [← hu, ← hr, ← hz] at efr
          obtain ⟨p, hp⟩ : ∃ p, u * T = p := ⟨_, rfl⟩
          rw [Int.mul_comm T u, hp] at efr
          have ep : 65536 * z - p = r := by omega
          have bp1 : -9223372036854775808 ≤ p := by omega
          have bp2 : p ≤ 9223372036854775807 := by omega
          have y1 := HD.out.l.cell j _ (tabI_at hlt)
          have f1 := HD.out.l.free j
          have y2 := HD.out.r.cell j _ (tabI_at hlt)
          have f2 := HD.out.r.free j
          obtain ⟨a1, ha1⟩ : ∃ a1, partF (flo (zf zs) T) j j = a1 := ⟨_, rfl⟩
          obtain ⟨a2, ha2⟩ : ∃ a2, partF (fun j => rsV (zf zs) T j) j j = a2 := ⟨_, rfl⟩
          rw [ha1] at y1
          rw [ha2] at y2
          have HD2 : Hid _ := HD.out.setl hlt (u := u) (hu.trans (partF_new _ _)) (partF_old _ _)
          have HMi2 : Hid (m - u = 65536 - sumF (flo (zf zs) T) (j + 1)) := by
            show m - u = 65536 - (sumF (flo (zf zs) T) j + flo (zf zs) T j)
            rw [HMi.out, hu]; omega
          have bm := sumF_flo_bd (z := zf zs) hS HM.out j
          have bm2 := sumF_flo_bd (z := zf zs) hS HM.out (j + 1)
          have bm3 : -9223372036854775808 ≤ m - u ∧ m - u ≤ 9223372036854775807 ∧ -9223372036854775808 ≤ m ∧ m ≤ 9223372036854775807 := by
            rw [HMi2.out, HMi.out]; omega
          obtain ⟨bm4, bm5, bm6, bm7⟩ := bm3
          have HE : Hid (r = rsV (zf zs) T (j : Int)) := hr
          have HZZ : Hid (zf zs j = z) := hz.symm
          clear hu hr hz eu ha1 ha2 bm bm2 efr HD HMi
          go_wp2_with (refine Cf.mono ?_; rintro e w' ⟨rfl, hw'⟩; obtain rfl := hw'.symm)
          clear Cf
          have y3 : (wr.setCell ⟨g, j, none⟩ (.int .i64 u)).cell? ⟨g, j, none⟩ = some (.int .i64 u) := World.cell?_setCell_same _ _ _ y1
          have y4 : (wr.setCell ⟨g, j, none⟩ (.int .i64 u)).cell? ⟨gr, j, none⟩ = some (.int .i64 a2) := (World.cell?_setCell_other _ _ _ _ (fun e => HD2.out.ne (by injection e))).trans y2
          have f4 : (wr.setCell ⟨g, j, none⟩ (.int .i64 u)).frozen? ⟨gr, j, none⟩ = false := by rw [World.frozen?_setCell]; exact f2
          have c4 := HD2.out.q.cell (HC.out j hlt)
          clear y1 y2 f1 f2 c1
          generalize wr.setCell ⟨g, j, none⟩ (.int .i64 u) = wn at HD2 y3 y4 f4 c4 ⊢
          rw [HZZ.out] at c4
          have n0 := qw_some wn
          have k1 := qw_cell c4
          have k2 := qw_cell y3
          have wz : IntKind.i64.wrap (65536 * z) = 65536 * z := by rw [IntKind.wrap_i64]; omega
          have wp : IntKind.i64.wrap p = p := by rw [IntKind.wrap_i64]; omega
          have wq : IntKind.i64.wrap r = r := by rw [IntKind.wrap_i64]; omega
          clear c4 bp1 bp2 br1
          go_wp2_with fail
          refine wp_region_mk [0, 1, 2, 3, 4, 5, 6, 7, 8, 9, 10, 11, 12, 13, 14] [[15]] 1 _ (by kernel_rfl) (by kernel_rfl) rfl (by kernel_rfl) ?_
          simp only [List.filterMap_cons, List.filterMap_nil, List.getElem?_cons_zero, List.getElem?_cons_succ]
          repeat (first | go_big_quiet_step (fail) | quiet_step (fail))
          refine wpQuiet_nil ?_
          intro x5 hx5
          clear k1 k2 n0
          have y5 := hx5.cell y4
          have f5 : x5.frozen? ⟨gr, j, none⟩ = false := by rw [hx5.2]; exact f4
          have y6 : (x5.setCell ⟨gr, j, none⟩ (.int .i64 r)).cell? ⟨g, j, none⟩ = some (.int .i64 u) := (World.cell?_setCell_other _ _ _ _ (fun e => HD2.out.ne (by injection e with e; exact e.symm))).trans (hx5.cell y3)
          have HD3 : Hid _ := (HD2.out.next hx5).setr hlt (u := r) (HE.out.trans (partF_new (fun j => rsV (zf zs) T j) _)) (partF_old _ _)
          refine tree_skipF 15 rfl rfl rfl (x' := x5.setCell ⟨gr, j, none⟩ (.int .i64 r)) (run_sti (i := j) (by kernel_rfl) (by kernel_rfl) y5 f5) ?_
          refine tree_nil ?_
          clear y3 y4 f4 y5 f5 HD2 hx5
          generalize x5.setCell ⟨gr, j, none⟩ (.int .i64 r) = x6 at HD3 y6 ⊢
          go_wp2_with fail
          go_roundg (i - (j + 1))
          case measure => go_light; omega
          case rel => go_light; exact ⟨j + 1, m - u, rfl, by simp, by omega, rfl, HMi2, HD3⟩
        · have hge : ¬ (j : Int) < (i : Int) := by omega
          obtain rfl : j = i := by omega
          have hm0 := miss_ge (zf zs) HS.out.symm hS
          have hm1 := miss_le (zf zs) HS.out.symm hS (by omega)
          obtain ⟨mm, hmm⟩ : ∃ mm : Nat, (mm : Int) = missV (zf zs) T j := ⟨(missV (zf zs) T j).toNat, by omega⟩
          have HMM : Hid ((missV (zf zs) T j).toNat = mm) := by show _ = _; omega
          obtain rfl : m = (mm : Int) := by rw [HMi.out, hmm]; rfl
          have hmN : mm < j := by omega
          have HG0 : Hid (Ds w wr (shrK (zf zs) T j 0) (rstK (zf zs) T j 0) j g gr) := by
            have := HD.out
            refine ⟨this.q, ?_, ?_, this.l1, this.l2, this.ne⟩
            · rw [tabI_congr (g := partF (flo (zf zs) T) j) (fun k hk => by rw [shrK_zero]; unfold partF; rw [if_pos hk])]; exact this.l
            · rw [tabI_congr (g := partF (fun j => rsV (zf zs) T j) j) (fun k hk => by rw [rstK_zero]; unfold partF; rw [if_pos hk])]; exact this.r
          clear HD hm0 hm1 hmm HMi hge hlt hj
          generalize wr = wz at *
          go_wp2_with fail
          go_loopg [8, 10, 11] mm (fun gh s8 s10 s11 wx => ∃ (k mk : Nat), s8 = .int .i64 (mk : Int) ∧ Hid (mk + k = mm) ∧ gh = mk ∧ Hid (Ds w wx (shrK (zf zs) T j k) (rstK (zf zs) T j k) j g gr))
          case atStart => exact ⟨0, mm, rfl, rfl, rfl, HG0⟩
          case round =>
            clear HG0
            obtain ⟨k, mk, rfl, HK, hgh, HG⟩ := hrel
            obtain rfl := hgh.symm
            generalize wr = wi at *
            by_cases hlt : 0 < mk
            · have hltz : (0 : Int) < (mk : Int) := by omega
              have hkj : k < j := by have := HK.out; omega
              go_wp2_with fail
              go_loopg [10, 11] (j - 1) (fun gh s10 s11 wx => ∃ (b i : Nat), s10 = .int .i64 (b : Int) ∧ s11 = .int .i64 (i : Int) ∧ b < j ∧ 1 ≤ i ∧ i ≤ j ∧ gh = j - i ∧ Hid (Bst (rstK (zf zs) T j k) i b) ∧ Hid (Q wi wx))
              case atStart => exact ⟨0, 1, rfl, rfl, by omega, Nat.le_refl _, by omega, rfl, Bst.one _, Q.refl _⟩
              case round =>
                obtain ⟨b, i, rfl, rfl, hbj, hi1, hij, rfl, HBs, HQ⟩ := hrel
                by_cases hi : i < j
                · have hiz : (i : Int) < (j : Int) := by omega
                  have hbz : (b : Int) < (j : Int) := by omega
                  have d1 := HQ.out.cell (HG.out.r.cell i _ (tabI_at hi))
                  have d2 := HQ.out.cell (HG.out.r.cell b _ (tabI_at hbj))
                  obtain ⟨x1, hx1⟩ : ∃ x1, rstK (zf zs) T j k i = x1 := ⟨_, rfl⟩
                  obtain ⟨x2, hx2⟩ : ∃ x2, rstK (zf zs) T j k b = x2 := ⟨_, rfl⟩
                  rw [hx1] at d1
                  rw [hx2] at d2
                  have n0 := qw_some wr
                  have k1 := qw_cell d1
                  have k2 := qw_cell d2
                  have HX : Hid (rstK (zf zs) T j k i = x1 ∧ rstK (zf zs) T j k b = x2) := ⟨hx1, hx2⟩
                  clear hx1 hx2
                  by_cases hgt : x2 < x1
                  · have HB2 : Hid (Bst (rstK (zf zs) T j k) (i + 1) i) := HBs.out.new (by rw [HX.out.1, HX.out.2]; exact hgt)
                    go_wp2_with fail
                    refine wp_region_quiet_Q (by kernel_rfl) (by kernel_rfl) ?_
                    repeat (first | go_big_quiet_step (fail) | quiet_step (fail))
                    refine wpQuiet_nil ?_
                    intro w4 hw'
                    have HQ4 : Hid (Q wi w4) := HQ.out.trans (qw_out hw')
                    clear hw' k1 k2 n0 d1 d2
                    go_wp2_with fail
                    go_roundg (j - (i + 1))
                    case measure => go_light; omega
                    case rel => go_light; exact ⟨i, i + 1, rfl, by simp, hi, by omega, by omega, rfl, HB2, HQ4⟩
                  · have HB2 : Hid (Bst (rstK (zf zs) T j k) (i + 1) b) := HBs.out.old (by rw [HX.out.1, HX.out.2]; exact hgt)
                    go_wp2_with fail
                    refine wp_region_quiet_Q (by kernel_rfl) (by kernel_rfl) ?_
                    repeat (first | go_big_quiet_step (fail) | quiet_step (fail))
                    refine wpQuiet_nil ?_
                    intro w4 hw'
                    have HQ4 : Hid (Q wi w4) := HQ.out.trans (qw_out hw')
                    clear hw' k1 k2 n0 d1 d2
                    go_wp2_with fail
                    go_roundg (j - (i + 1))
                    case measure => go_light; omega
                    case rel => go_light; exact ⟨b, i + 1, rfl, by simp, hbj, by omega, by omega, rfl, HB2, HQ4⟩
                · have hige : ¬ (i : Int) < (j : Int) := by omega
                  obtain rfl : i = j := by omega
                  obtain ⟨o, ho, hoN⟩ := ordL_place (r := rsV (zf zs) T) hkj
                  obtain rfl : b = o := HBs.out.unique (bst_ord hS ho)
                  have hbz : (b : Int) < (i : Int) := by omega
                  have HG1 := HG.out.next HQ.out
                  have y1 := HG1.l.cell b _ (tabI_at hbj)
                  have f1 := HG1.l.free b
                  have y2 := HG1.r.cell b _ (tabI_at hbj)
                  have f2 := HG1.r.free b
                  obtain ⟨e1, e2⟩ := shrK_hit ho
                  obtain ⟨e3, e4⟩ := rstK_hit ho
                  obtain ⟨x1, hx1⟩ : ∃ x1, shrK (zf zs) T i k b = x1 := ⟨_, rfl⟩
                  obtain ⟨x2, hx2⟩ : ∃ x2, rstK (zf zs) T i k b = x2 := ⟨_, rfl⟩
                  have bx : -72057594037927936 ≤ x1 ∧ x1 ≤ 72057594037927937 := by
                    rw [← hx1]; unfold shrK
                    have := flo_size (z := zf zs) (i := b) hS (HM.out b)
                    split <;> omega
                  obtain ⟨bx1, bx2⟩ := bx
                  rw [hx1] at y1 e1
                  rw [hx2] at y2
                  have HD2 : Hid (Ds w ((wr.setCell ⟨g, b, none⟩ (.int .i64 (x1 + 1))).setCell ⟨gr, b, none⟩ (.int .i64 (-1))) (shrK (zf zs) T i (k + 1)) (rstK (zf zs) T i (k + 1)) i g gr) := (HG1.setl hbj (u := x1 + 1) e1.symm e2).setr hbj (u := -1) e3.symm e4
                  have y4 : (wr.setCell ⟨g, b, none⟩ (.int .i64 (x1 + 1))).cell? ⟨gr, b, none⟩ = some (.int .i64 x2) := (World.cell?_setCell_other _ _ _ _ (fun e => HG1.ne (by injection e))).trans y2
                  have f4 : (wr.setCell ⟨g, b, none⟩ (.int .i64 (x1 + 1))).frozen? ⟨gr, b, none⟩ = false := by rw [World.frozen?_setCell]; exact f2
                  obtain ⟨mk', hmk⟩ : ∃ mk', mk = mk' + 1 := ⟨mk - 1, by omega⟩
                  have emk : (mk : Int) - 1 = (mk' : Int) := by omega
                  have HK2 : Hid (mk' + (k + 1) = mm) := by have := HK.out; show mk' + (k + 1) = mm; omega
                  have hlm : mk' < mk := by omega
                  have hmkb : mk ≤ 100 := by have := HK.out; omega
                  have hmkb2 : mk' ≤ 100 := by omega
                  clear ho e1 e2 e3 e4 hx1 hx2 HG1 y2 f2 HBs HQ HG HK hmk
                  go_wp2_with fail
                  generalize ((wr.setCell ⟨g, b, none⟩ (.int .i64 (x1 + 1))).setCell ⟨gr, b, none⟩ (.int .i64 (-1))) = w9 at HD2 ⊢
                  go_roundg mk'
                  case measure => go_light; omega
                  case rel => go_light; exact ⟨k + 1, mk', by simp [emk], HK2, rfl, HD2⟩
            · have hge : ¬ (0 : Int) < (mk : Int) := by omega
              obtain rfl : mk = 0 := by omega
              have HKe : Hid (k = mm) := by have := HK.out; show k = mm; omega
              go_wp2_with fail
              go_ret2
              refine ⟨g, rfl, HG.out.l1, ?_, HG.out.q⟩
              rw [HFin.out, HMM.out, ← HKe.out]
              exact HG.out.l
end Go.Proofs.Ytnlphjekillciaa
/- The document's weights. -/
namespace Go.Proofs.Ytnlphjekillciaa
open Go.RowKit
set_option linter.unusedVariables false
set_option linter.unusedSimpArgs false

set_option maxHeartbeats 1000000 in
theorem r9size_any (k : Int) (w : World) : Calls Try.prog 39 #[.int .i64 k] w fun e w' => e = .returned (.bool (decide (1 ≤ k ∧ k ≤ 1024))) ∧ w' = w := by
  by_cases h1 : 1 ≤ k
  · by_cases h2 : k ≤ 1024
    · rw [decide_eq_true ⟨h1, h2⟩]
      go_enter Try.func39, Try.ntmps39
      go_wp2_with fail
      go_ret
      exact ⟨by first | rfl | simp, rfl⟩
    · rw [decide_eq_false (fun h => h2 h.2)]
      go_enter Try.func39, Try.ntmps39
      go_wp2_with fail
      go_ret
      exact ⟨by first | rfl | (simp; omega), rfl⟩
  · rw [decide_eq_false (fun h => h1 h.1)]
    go_enter Try.func39, Try.ntmps39
    go_wp2_with fail
    go_ret
    exact ⟨by first | rfl | (simp; omega), rfl⟩
theorem mx_abs (a : Int) : ∀ (ts : Array TypeId) (t : TypeId) (w : World), (Builtin.max_ ts t #[.int .i64 a, .int .i64 (-a)]).run Try.prog w = .ok (.int .i64 (absI a)) w := fun ts t w => by rw [← absI_max]; exact run_mx2 ts t _ _ w
set_option maxHeartbeats 2000000 in
set_option maxRecDepth 100000 in
theorem rw1_any (a b : Int) (w : World) (a0 : -81920 ≤ a) (a1 : a ≤ 81920) (b0 : 1 ≤ b) (b1 : b ≤ 2048) :
    Calls Try.prog 41 #[.int .i64 1, .int .i64 a, .int .i64 b] w fun e w' => e = .returned (.int .i64 (if -b ≤ 2 * a ∧ 2 * a < b then 2 * b * b * b else 0)) ∧ w' = w := by
  have hmx := mx_abs a
  generalize absI a = A at hmx
  have m2 := mul_bd (by omega : 0 ≤ b) b1 (by omega : 0 ≤ b) b1
  have m5 := mul_bd m2.1 m2.2 (by omega : 0 ≤ b) b1
  have e5 : 2 * b * b = 2 * (b * b) := Int.mul_assoc _ _ _
  have e6 : 2 * (b * b) * b = 2 * (b * b * b) := Int.mul_assoc _ _ _
  obtain ⟨bb, hbb⟩ : ∃ bb, bb = b * b := ⟨_, rfl⟩
  obtain ⟨bbb, hbbb⟩ : ∃ x, x = b * b * b := ⟨_, rfl⟩
  rw [show (2 * b * b * b : Int) = 2 * bbb by rw [e5, e6, hbbb]]
  rw [← hbbb] at m5 e6
  rw [← hbb] at m2 e5 e6
  obtain ⟨m2a, m2b⟩ := m2
  obtain ⟨m5a, m5b⟩ := m5
  clear hbb hbbb
  by_cases h1 : -b ≤ 2 * a
  · by_cases h2 : 2 * a < b
    · rw [if_pos ⟨h1, h2⟩]
      go_enter Try.func41, Try.ntmps41
      go_wp2_with fail
      go_ret
      exact ⟨rfl, rfl⟩
    · rw [if_neg (fun h => h2 h.2)]
      go_enter Try.func41, Try.ntmps41
      go_wp2_with fail
      go_ret
      exact ⟨rfl, rfl⟩
  · rw [if_neg (fun h => h1 h.1)]
    go_enter Try.func41, Try.ntmps41
    go_wp2_with fail
    go_ret
    exact ⟨rfl, rfl⟩
set_option maxHeartbeats 2000000 in
set_option maxRecDepth 100000 in
theorem rw2_any (a b : Int) (w : World) (a0 : -81920 ≤ a) (a1 : a ≤ 81920) (b0 : 1 ≤ b) (b1 : b ≤ 2048) :
    Calls Try.prog 41 #[.int .i64 2, .int .i64 a, .int .i64 b] w fun e w' => e = .returned (.int .i64 (if absI a < b then 2 * b * b * (b - absI a) else 0)) ∧ w' = w := by
  have hmx := mx_abs a
  have hA : 0 ≤ absI a := by unfold absI; omega
  generalize absI a = A at hmx hA ⊢
  have m2 := mul_bd (by omega : 0 ≤ b) b1 (by omega : 0 ≤ b) b1
  have e5 : 2 * b * b = 2 * (b * b) := Int.mul_assoc _ _ _
  obtain ⟨bb, hbb⟩ : ∃ bb, bb = b * b := ⟨_, rfl⟩
  rw [← hbb] at m2 e5
  rw [e5]
  obtain ⟨m2a, m2b⟩ := m2
  clear hbb
  by_cases h1 : A < b
  · rw [if_pos h1]
    have m3 := mul_bd (x := 2 * bb) (X := 8388608) (y := b - A) (Y := 2048) (by omega) (by omega) (by omega) (by omega)
    obtain ⟨d, hd⟩ : ∃ d, b - A = d := ⟨_, rfl⟩
    rw [hd] at m3 ⊢
    obtain ⟨r, hr⟩ : ∃ r, 2 * bb * d = r := ⟨_, rfl⟩
    rw [hr] at m3 ⊢
    obtain ⟨m3a, m3b⟩ := m3
    have d1 : 0 ≤ d := by omega
    have d2 : d ≤ 2048 := by omega
    go_enter Try.func41, Try.ntmps41
    go_wp2_with fail
    go_ret
    exact ⟨rfl, rfl⟩
  · rw [if_neg h1]
    go_enter Try.func41, Try.ntmps41
    go_wp2_with fail
    go_ret
    exact ⟨rfl, rfl⟩
set_option maxHeartbeats 4000000 in
set_option maxRecDepth 100000 in
theorem rw3_any (a b : Int) (w : World) (a0 : -81920 ≤ a) (a1 : a ≤ 81920) (b0' : 1 ≤ b) (b1 : b ≤ 2048) :
    Calls Try.prog 41 #[.int .i64 3, .int .i64 a, .int .i64 b] w fun e w' => e = .returned (.int .i64 (cubV (absI a) b)) ∧ w' = w := by
  have hmx := mx_abs a
  have c0 : 0 ≤ absI a := by unfold absI; omega
  generalize absI a = c at hmx c0 ⊢
  have b0 : 0 ≤ b := by omega
  by_cases hc : c < 2 * b
  · have c1 : c ≤ 8192 := by omega
    have m1 := mul_bd c0 c1 c0 c1
    have m2 := mul_bd b0 b1 b0 b1
    have m3 := mul_bd m1.1 m1.2 c0 c1
    have m4 := mul_bd m1.1 m1.2 b0 b1
    have m5 := mul_bd m2.1 m2.2 b0 b1
    have m6 := mul_bd c0 c1 m2.1 m2.2
    have e1 : 3 * c * c = 3 * (c * c) := Int.mul_assoc _ _ _
    have e2 : 3 * c * c * c = 3 * (c * c * c) := by rw [e1, Int.mul_assoc]
    have e3 : 5 * c * c = 5 * (c * c) := Int.mul_assoc _ _ _
    have e4 : 5 * c * c * b = 5 * (c * c * b) := by rw [e3, Int.mul_assoc]
    have e5 : 2 * b * b = 2 * (b * b) := Int.mul_assoc _ _ _
    have e6 : 2 * b * b * b = 2 * (b * b * b) := by rw [e5, Int.mul_assoc]
    have e7 : -c * c = -(c * c) := Int.neg_mul _ _
    have e8 : -c * c * c = -(c * c * c) := by rw [e7, Int.neg_mul]
    have e9 : 8 * c * b = 8 * (c * b) := Int.mul_assoc _ _ _
    have e10 : 8 * c * b * b = 8 * (c * (b * b)) := by rw [e9, Int.mul_assoc, Int.mul_assoc]
    have e11 : 4 * b * b = 4 * (b * b) := Int.mul_assoc _ _ _
    have e12 : 4 * b * b * b = 4 * (b * b * b) := by rw [e11, Int.mul_assoc]
    have m7 := mul_bd c0 c1 b0 b1
    unfold cubV
    rw [e2, e4, e6, e8, e10, e12]
    have E1 : Hid (3 * c * c = 3 * (c * c)) := e1
    obtain ⟨cc, hcc⟩ : ∃ cc, cc = c * c := ⟨_, rfl⟩
    obtain ⟨bb, hbb⟩ : ∃ bb, bb = b * b := ⟨_, rfl⟩
    obtain ⟨ccc, hccc⟩ : ∃ x, x = c * c * c := ⟨_, rfl⟩
    obtain ⟨ccb, hccb⟩ : ∃ x, x = c * c * b := ⟨_, rfl⟩
    obtain ⟨bbb, hbbb⟩ : ∃ x, x = b * b * b := ⟨_, rfl⟩
    obtain ⟨cbb, hcbb⟩ : ∃ x, x = c * (b * b) := ⟨_, rfl⟩
    obtain ⟨cb, hcb⟩ : ∃ x, x = c * b := ⟨_, rfl⟩
    rw [← hccc] at m3 e2 e8 ⊢
    rw [← hccb] at m4 e4 ⊢
    rw [← hbbb] at m5 e6 e12 ⊢
    rw [← hcbb] at m6 e10 ⊢
    rw [← hcc] at m1 e1 e3 e7
    rw [← hbb] at m2 e5 e11
    rw [← hcb] at m7 e9
    rw [e1] at e2
    rw [e3] at e4
    rw [e5] at e6
    rw [e7] at e8
    rw [e9] at e10
    rw [e11] at e12
    obtain ⟨m1a, m1b⟩ := m1
    obtain ⟨m2a, m2b⟩ := m2
    obtain ⟨m3a, m3b⟩ := m3
    obtain ⟨m4a, m4b⟩ := m4
    obtain ⟨m5a, m5b⟩ := m5
    obtain ⟨m6a, m6b⟩ := m6
    obtain ⟨m7a, m7b⟩ := m7
    have n8 : -cc * c = -ccc := e8
    clear hcc hbb hccc hccb hbbb hcbb hcb E1
    by_cases h1 : c < b
    · rw [if_pos h1]
      go_enter Try.func41, Try.ntmps41
      go_wp2_with fail
      go_ret
      exact ⟨rfl, rfl⟩
    · rw [if_neg h1, if_pos hc]
      go_enter Try.func41, Try.ntmps41
      go_wp2_with fail
      go_ret
      exact ⟨rfl, rfl⟩
  · have h1 : ¬ c < b := by omega
    unfold cubV
    rw [if_neg h1, if_neg hc]
    go_enter Try.func41, Try.ntmps41
    go_wp2_with fail
    go_ret
    exact ⟨rfl, rfl⟩
theorem rweight_any (kind a b : Int) (w : World) (hk : kind = 1 ∨ kind = 2 ∨ kind = 3) (a0 : -81920 ≤ a) (a1 : a ≤ 81920) (b0 : 1 ≤ b) (b1 : b ≤ 2048) :
    Calls Try.prog 41 #[.int .i64 kind, .int .i64 a, .int .i64 b] w fun e w' => e = .returned (.int .i64 (wgtR kind a b)) ∧ w' = w := by
  rcases hk with rfl | rfl | rfl
  · exact rw1_any a b w a0 a1 b0 b1
  · exact rw2_any a b w a0 a1 b0 b1
  · exact rw3_any a b w a0 a1 b0 b1
end Go.Proofs.Ytnlphjekillciaa
/- The chapter's examples: known. -/
namespace Go.Proofs.Ytnlphjekillciaa
open Go.RowKit
set_option linter.unusedVariables false
set_option linter.unusedSimpArgs false

theorem shr_none {z : Nat → Int} {n : Nat} {S : Int} (h1 : sumF z n = S) (h2 : missV z S n = 0) (i : Nat) : shrV z n i = flo z S i := by
  unfold shrV; rw [h1, h2]; exact shrK_zero _ _ _ _
theorem tk1 : wlsV 2 2 4 1 = [(0, 6), (1, 2)] := by decide
theorem tk2 : wlsV 3 2 4 1 = [(0, 816), (1, 208)] := by decide
theorem tk1' : tapsL (wlsV 2 2 4 1) = [(0, 49152), (1, 16384)] := by
  rw [tk1]
  have e := shr_none (z := zf [6, 2]) (n := 2) (S := 8) (by decide) (by decide)
  show tpK [(0, 6), (1, 2)] (shrV (zf [6, 2]) 2) 2 = _
  rw [show shrV (zf [6, 2]) 2 = flo (zf [6, 2]) 8 from funext e]
  decide
theorem tk2' : tapsL (wlsV 3 2 4 1) = [(0, 52224), (1, 13312)] := by
  rw [tk2]
  have e := shr_none (z := zf [816, 208]) (n := 2) (S := 1024) (by decide) (by decide)
  show tpK [(0, 816), (1, 208)] (shrV (zf [816, 208]) 2) 2 = _
  rw [show shrV (zf [816, 208]) 2 = flo (zf [816, 208]) 1024 from funext e]
  decide
theorem sk1 : tabI 3 (shrV (zf [1, 1, 1]) 3) = [21846, 21845, 21845] := by
  have o : ordL (rsV (zf [1, 1, 1]) 3) 3 = [0, 1, 2] := ordL_eq (by decide) (by unfold tlt; decide)
  have s : sumF (zf [1, 1, 1]) 3 = 3 := by decide
  have m : missV (zf [1, 1, 1]) 3 3 = 1 := by decide
  have e : shrV (zf [1, 1, 1]) 3 = fun i : Nat => flo (zf [1, 1, 1]) 3 i + if (i : Int) ∈ ([0] : List Int) then 1 else 0 := by
    funext i
    unfold shrV shrK
    rw [s, m, o]
    rfl
  rw [e]
  decide
theorem sz1 : Sz 2 4 1 := ⟨by decide, by decide, by decide, by decide, by decide, by decide⟩
theorem ok1 : shOk [1, 1, 1] := ⟨by decide, by decide, by decide, by decide⟩
end Go.Proofs.Ytnlphjekillciaa
