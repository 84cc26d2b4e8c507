/- The statement KernelSums: its walk. -/
import Derived.Test.YtlbeoiopgkkcdaaG0f9b2ce6
namespace Go.Proofs.Ytlbeoiopgkkcdaa
open Go.RowKit
set_option linter.unusedVariables false
set_option linter.unusedSimpArgs false

theorem shr_size {zs : List Int} {n : Nat} (hS : 0 < sumF (zf zs) n) (hM : ∀ i, -1099511627776 ≤ zs.getD i 0 ∧ zs.getD i 0 ≤ 1099511627776) (i : Nat) : -72057594037927936 ≤ shrV (zf zs) n i ∧ shrV (zf zs) n i ≤ 72057594037927937 := by
  unfold shrV shrK
  have := flo_size (z := zf zs) (i := i) hS (hM i)
  split <;> omega
theorem sumF_size {f : Nat → Int} {B : Int} (hf : ∀ i, -B ≤ f i ∧ f i ≤ B) : ∀ n : Nat, -((n : Int) * B) ≤ sumF f n ∧ sumF f n ≤ (n : Int) * B
  | 0 => by simp [sumF]
  | n + 1 => by
    have := sumF_size hf n
    have h2 := hf n
    unfold sumF
    rw [show (((n + 1 : Nat) : Int)) * B = (n : Int) * B + B by rw [Int.natCast_add, Int.add_mul]; simp]
    omega
set_option maxHeartbeats 16000000 in
set_option maxRecDepth 1000000 in
theorem ksums_walk (W : World) (v : Value) (zs : List Int) (hv : ISl W v zs) (hn : zs.length ≤ 9223372036854775807) :
    Calls Try.prog 8 #[v] W fun e w' => e = .returned (.bool true) ∧ Q W w' := by
  have C0 := known9_any W
  obtain ⟨ad, c, rfl⟩ := hv.form
  obtain ⟨N, eN⟩ : ∃ N, zs.length = N := ⟨_, rfl⟩
  have HV0 : Hid (ISl W (.slice ad N c) zs ∧ zs.length = N) := ⟨by rw [← eN]; exact hv, eN⟩
  rw [eN] at hn ⊢
  clear hv eN
  go_enter Try.func8, Try.ntmps8
  go_wp2_with fail
  refine C0.mono ?_
  rintro e w1 ⟨rfl, q1⟩
  have HQ1 : Hid (Q W w1) := q1
  have HV : Hid (ISl w1 (.slice ad N c) zs ∧ zs.length = N) := ⟨HV0.out.1.next q1, HV0.out.2⟩
  clear C0 q1 HV0
  go_wp2_with fail
  go_loopg [3, 4] N (fun gh s3 s4 wr => ∃ (i : Nat) (S : Int), s3 = .int .i64 S ∧ s4 = .int .i64 (i : Int) ∧ i ≤ N ∧ gh = N - i ∧ (i = 0 ∨ N ≤ 64) ∧ Hid (S = sumF (zf zs) i ∧ anyT zs i = false) ∧ wr = w1)
  case atStart => exact ⟨0, 0, rfl, rfl, Nat.zero_le _, rfl, Or.inl rfl, ⟨rfl, rfl⟩, rfl⟩
  case round =>
    obtain ⟨i, S, rfl, rfl, hi, rfl, h0, HS, hwr⟩ := hrel
    obtain rfl := hwr
    by_cases hlt : i < N
    · have hltz : (i : Int) < (N : Int) := by omega
      obtain ⟨g1, o1, d1, hs1, hI1⟩ := HV.out.1.some (by have := HV.out.2; omega)
      rw [HV.out.2] at hs1 hI1
      injection hs1 with e1 e2 e3
      subst e1 e3
      have c1 := hI1 i hlt
      obtain ⟨z, hz⟩ : ∃ z, z = zs.getD i 0 := ⟨_, rfl⟩
      rw [← hz] at c1
      have HZ : Hid (z = zs.getD i 0) := hz
      clear hI1 e2 hz
      by_cases h64 : 64 < N
      · have h64z : (64 : Int) < (N : Int) := by omega
        clear h0
        go_wp2_with fail
        go_ret
        exact ⟨rfl, HQ1.out⟩
      · have h64z : ¬ (64 : Int) < (N : Int) := by omega
        by_cases hz1 : 1099511627776 < z
        · clear h0
          go_wp2_with fail
          go_ret
          exact ⟨rfl, HQ1.out⟩
        · by_cases hz2 : z < -1099511627776
          · clear h0
            go_wp2_with fail
            go_ret
            exact ⟨rfl, HQ1.out⟩
          · have HS2 : Hid (S + z = sumF (zf zs) (i + 1) ∧ anyT zs (i + 1) = false) := by
              refine ⟨?_, ?_⟩
              · show S + z = sumF (zf zs) i + zf zs i
                rw [HS.out.1, HZ.out]; rfl
              · show (anyT zs i || tooB (zs.getD i 0)) = false
                rw [HS.out.2, ← HZ.out]
                unfold tooB
                rw [decide_eq_false hz2, decide_eq_false hz1]; rfl
            have b : -72057594037927936 ≤ S ∧ S ≤ 72057594037927936 := by
              have hb := anyT_bounds HS.out.2
              have h1 := sumF_mono (f := zf zs) (g := fun _ => 1099511627776) i (fun k hk => (hb k hk).2)
              have h2 := sumF_mono (f := fun _ => -1099511627776) (g := zf zs) i (fun k hk => (hb k hk).1)
              rw [sumF_const] at h1 h2
              rw [HS.out.1]
              omega
            obtain ⟨b1, b2⟩ := b
            clear HS h0
            go_wp2_with fail
            go_roundg (N - (i + 1))
            case measure => go_light; omega
            case rel => go_light; exact ⟨i + 1, S + z, rfl, by simp, by omega, rfl, Or.inr (by omega), HS2, rfl⟩
    · have hge : ¬ (i : Int) < (N : Int) := by omega
      obtain rfl : i = N := by omega
      have h64 : i ≤ 64 := by omega
      have HM : Hid (∀ k, -1099511627776 ≤ zs.getD k 0 ∧ zs.getD k 0 ≤ 1099511627776) := by
        have := HS.out.2
        rw [← HV.out.2] at this
        exact anyT_all this
      clear h0
      by_cases hok : 1 ≤ i ∧ 0 < S
      · have HOk : Hid (shOk zs) := by
          have hl := HV.out.2
          exact ⟨by omega, by omega, by rw [hl]; exact HS.out.2, by rw [hl, ← HS.out.1]; exact hok.2⟩
        have HCs : Hid (∀ (la : Option Addr) (lc : Nat) (w' : World), ISl w' (.slice la i lc) zs → Calls Try.prog 15 #[.slice la i lc] w' fun e w'' => ∃ g, e = .returned (.tuple #[.slice (some ⟨g, 0, none⟩) i i, .int .i64 0]) ∧ w'.heap.size ≤ g ∧ IRow w'' g (tabI i (shrV (zf zs) i)) ∧ Q w' w'') := fun la lc w' h => by
          have h2 := share_good _ zs w' h HOk.out
          rw [HV.out.2] at h2
          exact h2
        obtain ⟨hi1, hS0⟩ := hok
        have hi0 : ((i : Int) == 0) = false := by simp; omega
        have hi0' : ¬ (i : Int) = 0 := by omega
        have hSn : ¬ S ≤ 0 := by omega
        go_wp2_with (at_builtin; go_must (refine wpList_lendI _ rfl (.tmp 43) rfl ad i c zs HV.out.2 (by omega) (by simp [Act.eval, Act.put]) HV.out.1 ?_; intro la lc w2 q2 hl2))
        refine (HCs.out la lc w2 hl2).mono ?_
        rintro e w3 ⟨g, rfl, _, hrow, q3⟩
        have HR : Hid (IRow w3 g (tabI i (shrV (zf zs) i))) := hrow
        have HV3 : Hid (ISl w3 (.slice ad i c) zs) := (HV.out.1.next q2).next q3
        have HQ3 : Hid (Q W w3) := (HQ1.out.trans q2).trans q3
        clear q2 hl2 hrow q3 HCs
        obtain ⟨gw, ow, cw, hsw, hIw⟩ := HV3.out.some (by have := HV.out.2; omega)
        rw [HV.out.2] at hsw hIw
        injection hsw with e1 e2 e3
        subst e1 e3
        have HW : Hid (∀ k, k < i → w3.cell? ⟨gw, ow + k, none⟩ = some (.int .i64 (zs.getD k 0))) := hIw
        have hSs : 0 < sumF (zf zs) i := by rw [← HS.out.1]; exact hS0
        have HSh : Hid (∀ k, -72057594037927936 ≤ shrV (zf zs) i k ∧ shrV (zf zs) i k ≤ 72057594037927937) := fun k => shr_size hSs HM.out k
        have HNr : Hid (∀ k, -S < shrV (zf zs) i k * S - 65536 * zs.getD k 0 ∧ shrV (zf zs) i k * S - 65536 * zs.getD k 0 < S) := fun k => by
          have := shr_near (z := zf zs) hi1 hSs k
          rw [← HS.out.1] at this
          exact this
        have HAl : Hid (∀ k j, k < j → j < i → zs.getD k 0 = zs.getD j 0 → shrV (zf zs) i k = shrV (zf zs) i j ∨ shrV (zf zs) i k = shrV (zf zs) i j + 1) := fun k j h1 h2 h3 => shr_alike (z := zf zs) h1 h2 h3
        have HSu : Hid (sumF (shrV (zf zs) i) i = 65536) := shr_sum hi1 hSs
        have HSb : Hid (∀ k : Nat, k ≤ 64 → -4683743612465315968 ≤ sumF (shrV (zf zs) i) k ∧ sumF (shrV (zf zs) i) k ≤ 4683743612465315968) := fun k hk => by
          have := sumF_size (f := shrV (zf zs) i) (B := 72057594037927937) (fun j => by have := HSh.out j; omega) k
          omega
        have hSb1 : S ≤ 72057594037927936 := by
          have h1 := sumF_mono (f := zf zs) (g := fun _ => 1099511627776) i (fun k hk => (HM.out k).2)
          rw [sumF_const, ← HS.out.1] at h1
          omega
        clear HV3 hIw hSs HS HOk e2 HV
        generalize shrV (zf zs) i = sh at HR HSh HNr HAl HSu HSb
        go_wp2_with fail
        go_loopg [7, 8, 9, 10] i (fun gh s7 s8 s9 s10 wr => ∃ (j : Nat) (T : Int), s7 = .int .i64 T ∧ s8 = .int .i64 (j : Int) ∧ j ≤ i ∧ gh = i - j ∧ Hid (T = sumF sh j) ∧ Hid (Q w3 wr))
        case atStart => exact ⟨0, 0, rfl, rfl, Nat.zero_le _, rfl, rfl, Q.refl w3⟩
        case round =>
          obtain ⟨j, T, rfl, rfl, hj, rfl, HT, HQ⟩ := hrel
          by_cases hlt : j < i
          · have hltz : (j : Int) < (i : Int) := by omega
            obtain ⟨y, hy⟩ : ∃ y, sh j = y := ⟨_, rfl⟩
            obtain ⟨z, hz⟩ : ∃ z, zs.getD j 0 = z := ⟨_, rfl⟩
            have cl := HQ.out.cell (HR.out.cell j _ (tabI_at hlt))
            have cw := HQ.out.cell (HW.out j hlt)
            have by_ := HSh.out j
            have bn := HNr.out j
            rw [hy] at cl by_ bn
            rw [hz] at cw bn
            have bz := HM.out j
            rw [hz] at bz
            have HY : Hid (sh j = y ∧ zs.getD j 0 = z) := ⟨hy, hz⟩
            have bT := HSb.out j (by omega)
            rw [← HT.out] at bT
            have HT2 : Hid (T + y = sumF sh (j + 1)) := by show T + y = sumF sh j + sh j; rw [HT.out, hy]
            obtain ⟨ys, hys⟩ : ∃ ys, y * S = ys := ⟨_, rfl⟩
            rw [hys] at bn
            obtain ⟨by1, by2⟩ := by_
            obtain ⟨bn1, bn2⟩ := bn
            obtain ⟨bz1, bz2⟩ := bz
            obtain ⟨bT1, bT2⟩ := bT
            have t1 : ¬ (144115188075855872 : Int) < y := by omega
            have t2 : ¬ y < -144115188075855872 := by omega
            clear hy hz HT
            by_cases s1 : S < 1073741824
            · by_cases s2 : z < 1073741824
              · by_cases s3 : -1073741824 < z
                · obtain ⟨d, hd⟩ : ∃ d, ys - 65536 * z = d := ⟨_, rfl⟩
                  rw [hd] at bn1 bn2
                  have bs1 : -4611686018427387904 ≤ ys := by omega
                  have bs2 : ys ≤ 4611686018427387904 := by omega
                  have u1 : ¬ d ≤ -S := by omega
                  have u2 : ¬ S ≤ d := by omega
                  have wy : IntKind.i64.wrap ys = ys := by rw [IntKind.wrap_i64]; omega
                  have wz : IntKind.i64.wrap (65536 * z) = 65536 * z := by rw [IntKind.wrap_i64]; omega
                  have wd : IntKind.i64.wrap d = d := by rw [IntKind.wrap_i64]; omega
                  have n0 := qw_some wr
                  have f0 := qw_cell cl
                  have f1 := qw_cell cw
                  go_wp2_with fail
                  refine wp_region_quiet_Q (by kernel_rfl) (by kernel_rfl) ?_
                  repeat (first | go_big_quiet_step (fail) | quiet_step (fail))
                  refine wpQuiet_nil ?_
                  intro w4 hw'
                  have HQd : Hid (Q w3 w4) := HQ.out.trans (qw_out hw')
                  clear hw' f0 f1 n0 cl cw
                  go_wp2_with fail
                  go_loopg [10] j (fun gh s10 wr => ∃ k : Nat, s10 = .int .i64 (k : Int) ∧ k ≤ j ∧ gh = j - k ∧ Hid (Q w3 wr))
                  case atStart => exact ⟨0, rfl, Nat.zero_le _, rfl, HQd⟩
                  case round =>
                    obtain ⟨k, rfl, hk, rfl, HQk⟩ := hrel
                    by_cases hkj : k < j
                    · have hkz : (k : Int) < (j : Int) := by omega
                      have hkzN : (k : Int) < (i : Int) := by omega
                      have hkN : k < i := by omega
                      obtain ⟨yk, hyk⟩ : ∃ y, sh k = y := ⟨_, rfl⟩
                      obtain ⟨zk, hzk⟩ : ∃ z, zs.getD k 0 = z := ⟨_, rfl⟩
                      have n0 := qw_some wr
                      have k1 := qw_cell (HQk.out.cell (HR.out.cell j _ (tabI_at hlt)))
                      have k2 := qw_cell (HQk.out.cell (HR.out.cell k _ (tabI_at hkN)))
                      have k3 := qw_cell (HQk.out.cell (HW.out j hlt))
                      have k4 := qw_cell (HQk.out.cell (HW.out k hkN))
                      rw [HY.out.1] at k1
                      rw [hyk] at k2
                      rw [HY.out.2] at k3
                      rw [hzk] at k4
                      have al := HAl.out k j hkj hlt
                      rw [hyk, hzk, HY.out.1, HY.out.2] at al
                      clear hyk hzk
                      by_cases hzz : zk = z
                      · have al := al hzz
                        have b1 : (zk == z) = true := by simpa using hzz
                        by_cases hyy : yk = y
                        · have b2 : (yk == y) = true := by simpa using hyy
                          have b2' : (yk != y) = false := by simp [hyy]
                          clear al hzz hyy
                          go_wp2_with fail
                          refine wp_region_quiet_Q (by kernel_rfl) (by kernel_rfl) ?_
                          repeat (first | go_big_quiet_step (fail) | quiet_step (fail))
                          refine wpQuiet_nil ?_
                          intro w4 hw'
                          have HQ4 : Hid (Q w3 w4) := HQk.out.trans (qw_out hw')
                          clear hw' k1 k2 k3 k4 n0
                          go_wp2_with fail
                          go_roundg (j - (k + 1))
                          case measure => go_light; omega
                          case rel => go_light; exact ⟨k + 1, by simp, by omega, rfl, HQ4⟩
                        · have hy1 : yk = y + 1 := by rcases al with h | h; exact absurd h hyy; exact h
                          have b2 : (yk == y) = false := by simpa using hyy
                          have b2' : (yk != y) = true := by simp [hyy]
                          have b3 : (yk == y + 1) = true := by simpa using hy1
                          have wy1 : IntKind.i64.wrap (y + 1) = y + 1 := by rw [IntKind.wrap_i64]; omega
                          have b3' : (yk != y + 1) = false := by simp [hy1]
                          clear al hzz hyy hy1
                          go_wp2_with fail
                          refine wp_region_quiet_Q (by kernel_rfl) (by kernel_rfl) ?_
                          repeat (first | go_big_quiet_step (fail) | quiet_step (fail))
                          refine wpQuiet_nil ?_
                          intro w4 hw'
                          have HQ4 : Hid (Q w3 w4) := HQk.out.trans (qw_out hw')
                          clear hw' k1 k2 k3 k4 n0
                          go_wp2_with fail
                          go_roundg (j - (k + 1))
                          case measure => go_light; omega
                          case rel => go_light; exact ⟨k + 1, by simp, by omega, rfl, HQ4⟩
                      · have b1 : (zk == z) = false := by simpa using hzz
                        clear al hzz
                        go_wp2_with fail
                        refine wp_region_quiet_Q (by kernel_rfl) (by kernel_rfl) ?_
                        repeat (first | go_big_quiet_step (fail) | quiet_step (fail))
                        refine wpQuiet_nil ?_
                        intro w4 hw'
                        have HQ4 : Hid (Q w3 w4) := HQk.out.trans (qw_out hw')
                        clear hw' k1 k2 k3 k4 n0
                        go_wp2_with fail
                        go_roundg (j - (k + 1))
                        case measure => go_light; omega
                        case rel => go_light; exact ⟨k + 1, by simp, by omega, rfl, HQ4⟩
                    · have hkge : ¬ (k : Int) < (j : Int) := by omega
                      obtain rfl : k = j := by omega
                      go_wp2_with fail
                      go_roundg (i - (k + 1))
                      case measure => go_light; omega
                      case rel => go_light; exact ⟨k + 1, T + y, rfl, by simp, by omega, rfl, HT2, HQk⟩
                · clear bn1 bn2 hys
                  go_wp2_with fail
                  go_loopg [10] j (fun gh s10 wr => ∃ k : Nat, s10 = .int .i64 (k : Int) ∧ k ≤ j ∧ gh = j - k ∧ Hid (Q w3 wr))
                  case atStart => exact ⟨0, rfl, Nat.zero_le _, rfl, HQ⟩
                  case round =>
                    obtain ⟨k, rfl, hk, rfl, HQk⟩ := hrel
                    by_cases hkj : k < j
                    · have hkz : (k : Int) < (j : Int) := by omega
                      have hkzN : (k : Int) < (i : Int) := by omega
                      have hkN : k < i := by omega
                      obtain ⟨yk, hyk⟩ : ∃ y, sh k = y := ⟨_, rfl⟩
                      obtain ⟨zk, hzk⟩ : ∃ z, zs.getD k 0 = z := ⟨_, rfl⟩
                      have n0 := qw_some wr
                      have k1 := qw_cell (HQk.out.cell (HR.out.cell j _ (tabI_at hlt)))
                      have k2 := qw_cell (HQk.out.cell (HR.out.cell k _ (tabI_at hkN)))
                      have k3 := qw_cell (HQk.out.cell (HW.out j hlt))
                      have k4 := qw_cell (HQk.out.cell (HW.out k hkN))
                      rw [HY.out.1] at k1
                      rw [hyk] at k2
                      rw [HY.out.2] at k3
                      rw [hzk] at k4
                      have al := HAl.out k j hkj hlt
                      rw [hyk, hzk, HY.out.1, HY.out.2] at al
                      clear hyk hzk
                      by_cases hzz : zk = z
                      · have al := al hzz
                        have b1 : (zk == z) = true := by simpa using hzz
                        by_cases hyy : yk = y
                        · have b2 : (yk == y) = true := by simpa using hyy
                          have b2' : (yk != y) = false := by simp [hyy]
                          clear al hzz hyy
                          go_wp2_with fail
                          refine wp_region_quiet_Q (by kernel_rfl) (by kernel_rfl) ?_
                          repeat (first | go_big_quiet_step (fail) | quiet_step (fail))
                          refine wpQuiet_nil ?_
                          intro w4 hw'
                          have HQ4 : Hid (Q w3 w4) := HQk.out.trans (qw_out hw')
                          clear hw' k1 k2 k3 k4 n0
                          go_wp2_with fail
                          go_roundg (j - (k + 1))
                          case measure => go_light; omega
                          case rel => go_light; exact ⟨k + 1, by simp, by omega, rfl, HQ4⟩
                        · have hy1 : yk = y + 1 := by rcases al with h | h; exact absurd h hyy; exact h
                          have b2 : (yk == y) = false := by simpa using hyy
                          have b2' : (yk != y) = true := by simp [hyy]
                          have b3 : (yk == y + 1) = true := by simpa using hy1
                          have wy1 : IntKind.i64.wrap (y + 1) = y + 1 := by rw [IntKind.wrap_i64]; omega
                          have b3' : (yk != y + 1) = false := by simp [hy1]
                          clear al hzz hyy hy1
                          go_wp2_with fail
                          refine wp_region_quiet_Q (by kernel_rfl) (by kernel_rfl) ?_
                          repeat (first | go_big_quiet_step (fail) | quiet_step (fail))
                          refine wpQuiet_nil ?_
                          intro w4 hw'
                          have HQ4 : Hid (Q w3 w4) := HQk.out.trans (qw_out hw')
                          clear hw' k1 k2 k3 k4 n0
                          go_wp2_with fail
                          go_roundg (j - (k + 1))
                          case measure => go_light; omega
                          case rel => go_light; exact ⟨k + 1, by simp, by omega, rfl, HQ4⟩
                      · have b1 : (zk == z) = false := by simpa using hzz
                        clear al hzz
                        go_wp2_with fail
                        refine wp_region_quiet_Q (by kernel_rfl) (by kernel_rfl) ?_
                        repeat (first | go_big_quiet_step (fail) | quiet_step (fail))
                        refine wpQuiet_nil ?_
                        intro w4 hw'
                        have HQ4 : Hid (Q w3 w4) := HQk.out.trans (qw_out hw')
                        clear hw' k1 k2 k3 k4 n0
                        go_wp2_with fail
                        go_roundg (j - (k + 1))
                        case measure => go_light; omega
                        case rel => go_light; exact ⟨k + 1, by simp, by omega, rfl, HQ4⟩
                    · have hkge : ¬ (k : Int) < (j : Int) := by omega
                      obtain rfl : k = j := by omega
                      go_wp2_with fail
                      go_roundg (i - (k + 1))
                      case measure => go_light; omega
                      case rel => go_light; exact ⟨k + 1, T + y, rfl, by simp, by omega, rfl, HT2, HQk⟩
              · clear bn1 bn2 hys
                go_wp2_with fail
                go_loopg [10] j (fun gh s10 wr => ∃ k : Nat, s10 = .int .i64 (k : Int) ∧ k ≤ j ∧ gh = j - k ∧ Hid (Q w3 wr))
                case atStart => exact ⟨0, rfl, Nat.zero_le _, rfl, HQ⟩
                case round =>
                  obtain ⟨k, rfl, hk, rfl, HQk⟩ := hrel
                  by_cases hkj : k < j
                  · have hkz : (k : Int) < (j : Int) := by omega
                    have hkzN : (k : Int) < (i : Int) := by omega
                    have hkN : k < i := by omega
                    obtain ⟨yk, hyk⟩ : ∃ y, sh k = y := ⟨_, rfl⟩
                    obtain ⟨zk, hzk⟩ : ∃ z, zs.getD k 0 = z := ⟨_, rfl⟩
                    have n0 := qw_some wr
                    have k1 := qw_cell (HQk.out.cell (HR.out.cell j _ (tabI_at hlt)))
                    have k2 := qw_cell (HQk.out.cell (HR.out.cell k _ (tabI_at hkN)))
                    have k3 := qw_cell (HQk.out.cell (HW.out j hlt))
                    have k4 := qw_cell (HQk.out.cell (HW.out k hkN))
                    rw [HY.out.1] at k1
                    rw [hyk] at k2
                    rw [HY.out.2] at k3
                    rw [hzk] at k4
                    have al := HAl.out k j hkj hlt
                    rw [hyk, hzk, HY.out.1, HY.out.2] at al
                    clear hyk hzk
                    by_cases hzz : zk = z
                    · have al := al hzz
                      have b1 : (zk == z) = true := by simpa using hzz
                      by_cases hyy : yk = y
                      · have b2 : (yk == y) = true := by simpa using hyy
                        have b2' : (yk != y) = false := by simp [hyy]
                        clear al hzz hyy
                        go_wp2_with fail
                        refine wp_region_quiet_Q (by kernel_rfl) (by kernel_rfl) ?_
                        repeat (first | go_big_quiet_step (fail) | quiet_step (fail))
                        refine wpQuiet_nil ?_
                        intro w4 hw'
                        have HQ4 : Hid (Q w3 w4) := HQk.out.trans (qw_out hw')
                        clear hw' k1 k2 k3 k4 n0
                        go_wp2_with fail
                        go_roundg (j - (k + 1))
                        case measure => go_light; omega
                        case rel => go_light; exact ⟨k + 1, by simp, by omega, rfl, HQ4⟩
                      · have hy1 : yk = y + 1 := by rcases al with h | h; exact absurd h hyy; exact h
                        have b2 : (yk == y) = false := by simpa using hyy
                        have b2' : (yk != y) = true := by simp [hyy]
                        have b3 : (yk == y + 1) = true := by simpa using hy1
                        have wy1 : IntKind.i64.wrap (y + 1) = y + 1 := by rw [IntKind.wrap_i64]; omega
                        have b3' : (yk != y + 1) = false := by simp [hy1]
                        clear al hzz hyy hy1
                        go_wp2_with fail
                        refine wp_region_quiet_Q (by kernel_rfl) (by kernel_rfl) ?_
                        repeat (first | go_big_quiet_step (fail) | quiet_step (fail))
                        refine wpQuiet_nil ?_
                        intro w4 hw'
                        have HQ4 : Hid (Q w3 w4) := HQk.out.trans (qw_out hw')
                        clear hw' k1 k2 k3 k4 n0
                        go_wp2_with fail
                        go_roundg (j - (k + 1))
                        case measure => go_light; omega
                        case rel => go_light; exact ⟨k + 1, by simp, by omega, rfl, HQ4⟩
                    · have b1 : (zk == z) = false := by simpa using hzz
                      clear al hzz
                      go_wp2_with fail
                      refine wp_region_quiet_Q (by kernel_rfl) (by kernel_rfl) ?_
                      repeat (first | go_big_quiet_step (fail) | quiet_step (fail))
                      refine wpQuiet_nil ?_
                      intro w4 hw'
                      have HQ4 : Hid (Q w3 w4) := HQk.out.trans (qw_out hw')
                      clear hw' k1 k2 k3 k4 n0
                      go_wp2_with fail
                      go_roundg (j - (k + 1))
                      case measure => go_light; omega
                      case rel => go_light; exact ⟨k + 1, by simp, by omega, rfl, HQ4⟩
                  · have hkge : ¬ (k : Int) < (j : Int) := by omega
                    obtain rfl : k = j := by omega
                    go_wp2_with fail
                    go_roundg (i - (k + 1))
                    case measure => go_light; omega
                    case rel => go_light; exact ⟨k + 1, T + y, rfl, by simp, by omega, rfl, HT2, HQk⟩
            · clear bn1 bn2 hys
              go_wp2_with fail
              go_loopg [10] j (fun gh s10 wr => ∃ k : Nat, s10 = .int .i64 (k : Int) ∧ k ≤ j ∧ gh = j - k ∧ Hid (Q w3 wr))
              case atStart => exact ⟨0, rfl, Nat.zero_le _, rfl, HQ⟩
              case round =>
                obtain ⟨k, rfl, hk, rfl, HQk⟩ := hrel
                by_cases hkj : k < j
                · have hkz : (k : Int) < (j : Int) := by omega
                  have hkzN : (k : Int) < (i : Int) := by omega
                  have hkN : k < i := by omega
                  obtain ⟨yk, hyk⟩ : ∃ y, sh k = y := ⟨_, rfl⟩
                  obtain ⟨zk, hzk⟩ : ∃ z, zs.getD k 0 = z := ⟨_, rfl⟩
                  have n0 := qw_some wr
                  have k1 := qw_cell (HQk.out.cell (HR.out.cell j _ (tabI_at hlt)))
                  have k2 := qw_cell (HQk.out.cell (HR.out.cell k _ (tabI_at hkN)))
                  have k3 := qw_cell (HQk.out.cell (HW.out j hlt))
                  have k4 := qw_cell (HQk.out.cell (HW.out k hkN))
                  rw [HY.out.1] at k1
                  rw [hyk] at k2
                  rw [HY.out.2] at k3
                  rw [hzk] at k4
                  have al := HAl.out k j hkj hlt
                  rw [hyk, hzk, HY.out.1, HY.out.2] at al
                  clear hyk hzk
                  by_cases hzz : zk = z
                  · have al := al hzz
                    have b1 : (zk == z) = true := by simpa using hzz
                    by_cases hyy : yk = y
                    · have b2 : (yk == y) = true := by simpa using hyy
                      have b2' : (yk != y) = false := by simp [hyy]
                      clear al hzz hyy
                      go_wp2_with fail
                      refine wp_region_quiet_Q (by kernel_rfl) (by kernel_rfl) ?_
                      repeat (first | go_big_quiet_step (fail) | quiet_step (fail))
                      refine wpQuiet_nil ?_
                      intro w4 hw'
                      have HQ4 : Hid (Q w3 w4) := HQk.out.trans (qw_out hw')
                      clear hw' k1 k2 k3 k4 n0
                      go_wp2_with fail
                      go_roundg (j - (k + 1))
                      case measure => go_light; omega
                      case rel => go_light; exact ⟨k + 1, by simp, by omega, rfl, HQ4⟩
                    · have hy1 : yk = y + 1 := by rcases al with h | h; exact absurd h hyy; exact h
                      have b2 : (yk == y) = false := by simpa using hyy
                      have b2' : (yk != y) = true := by simp [hyy]
                      have b3 : (yk == y + 1) = true := by simpa using hy1
                      have wy1 : IntKind.i64.wrap (y + 1) = y + 1 := by rw [IntKind.wrap_i64]; omega
                      have b3' : (yk != y + 1) = false := by simp [hy1]
                      clear al hzz hyy hy1
                      go_wp2_with fail
                      refine wp_region_quiet_Q (by kernel_rfl) (by kernel_rfl) ?_
                      repeat (first | go_big_quiet_step (fail) | quiet_step (fail))
                      refine wpQuiet_nil ?_
                      intro w4 hw'
                      have HQ4 : Hid (Q w3 w4) := HQk.out.trans (qw_out hw')
                      clear hw' k1 k2 k3 k4 n0
                      go_wp2_with fail
                      go_roundg (j - (k + 1))
                      case measure => go_light; omega
                      case rel => go_light; exact ⟨k + 1, by simp, by omega, rfl, HQ4⟩
                  · have b1 : (zk == z) = false := by simpa using hzz
                    clear al hzz
                    go_wp2_with fail
                    refine wp_region_quiet_Q (by kernel_rfl) (by kernel_rfl) ?_
                    repeat (first | go_big_quiet_step (fail) | quiet_step (fail))
                    refine wpQuiet_nil ?_
                    intro w4 hw'
                    have HQ4 : Hid (Q w3 w4) := HQk.out.trans (qw_out hw')
                    clear hw' k1 k2 k3 k4 n0
                    go_wp2_with fail
                    go_roundg (j - (k + 1))
                    case measure => go_light; omega
                    case rel => go_light; exact ⟨k + 1, by simp, by omega, rfl, HQ4⟩
                · have hkge : ¬ (k : Int) < (j : Int) := by omega
                  obtain rfl : k = j := by omega
                  go_wp2_with fail
                  go_roundg (i - (k + 1))
                  case measure => go_light; omega
                  case rel => go_light; exact ⟨k + 1, T + y, rfl, by simp, by omega, rfl, HT2, HQk⟩
          · have hge2 : ¬ (j : Int) < (i : Int) := by omega
            obtain rfl : j = i := by omega
            have hT : T = 65536 := by rw [HT.out]; exact HSu.out
            subst hT
            go_wp2_with fail
            go_ret
            exact ⟨by first | rfl | simp, HQ3.out.trans HQ.out⟩
      · have HB : Hid (¬ shOk zs) := fun h => hok (by
          have hl := HV.out.2
          obtain ⟨p1, p2, p3, p4⟩ := h
          rw [hl] at p1 p4
          exact ⟨p1, by rw [HS.out.1]; exact p4⟩)
        have HCs : Hid (∀ (la : Option Addr) (lc : Nat) (w' : World), ISl w' (.slice la i lc) zs → Calls Try.prog 15 #[.slice la i lc] w' fun e w'' => e = .returned (.tuple #[.slice none 0 0, .int .i64 91]) ∧ w'' = w') := fun la lc w' h => share_bad _ zs w' h (by rw [HV.out.2]; omega) HB.out
        by_cases hi0 : i = 0
        · subst hi0
          go_wp2_with (at_builtin; go_must (refine wpList_lendI _ rfl (.tmp 43) rfl ad 0 c zs HV.out.2 (by omega) (by simp [Act.eval, Act.put]) HV.out.1 ?_; intro la lc w2 q2 hl2))
          refine (HCs.out la lc w2 hl2).mono ?_
          rintro e w3 ⟨rfl, hw3⟩
          obtain rfl := hw3.symm
          have HQ3 : Hid (Q W w2) := HQ1.out.trans q2
          clear q2 hl2 HCs
          go_wp2_with fail
          go_ret
          exact ⟨by first | rfl | simp, HQ3.out⟩
        · have hi0' : ((i : Int) == 0) = false := by simp; omega
          have hi0'' : ¬ (i : Int) = 0 := by omega
          have hSn : S ≤ 0 := by omega
          clear hok
          go_wp2_with (at_builtin; go_must (refine wpList_lendI _ rfl (.tmp 43) rfl ad i c zs HV.out.2 (by omega) (by simp [Act.eval, Act.put]) HV.out.1 ?_; intro la lc w2 q2 hl2))
          refine (HCs.out la lc w2 hl2).mono ?_
          rintro e w3 ⟨rfl, hw3⟩
          obtain rfl := hw3.symm
          have HQ3 : Hid (Q W w2) := HQ1.out.trans q2
          clear q2 hl2 HCs
          go_wp2_with fail
          go_ret
          exact ⟨by first | rfl | simp, HQ3.out⟩
end Go.Proofs.Ytlbeoiopgkkcdaa
