/- The statement KernelOnes: its walk. -/
import Derived.Test.YtlbeoiopgkkcdaaG4263890f
import Derived.Test.YtlbeoiopgkkcdaaG49c12626
namespace Go.Proofs.Ytlbeoiopgkkcdaa
open Go.RowKit
set_option linter.unusedVariables false
set_option linter.unusedSimpArgs false

set_option maxHeartbeats 8000000 in
set_option maxRecDepth 1000000 in
theorem ones_bad (W : World) (kind F T i : Int) (hE : tapE kind F T i ≠ 0) :
    Calls Try.prog 7 #[.int .i64 kind, .int .i64 F, .int .i64 T, .int .i64 i] W fun e w' => e = .returned (.bool true) ∧ Q W w' := by
  have C0 := known9_any W
  have HT : Hid (∀ w : World, Calls Try.prog 11 #[.int .i64 kind, .int .i64 F, .int .i64 T, .int .i64 i] w fun e w' => e = .returned (.tuple #[.slice none 0 0, .int .i64 (tapE kind F T i)]) ∧ w' = w) := fun w => taps_bad kind F T i w hE
  have HC : Hid (¬ (1 ≤ kind ∧ kind ≤ 3 ∧ 1 ≤ F ∧ F ≤ 1024 ∧ 1 ≤ T ∧ T ≤ 1024 ∧ 0 ≤ i ∧ i < T ∧ F ≤ 15 * T)) := by
    intro h
    apply hE
    obtain ⟨a, b, c, d, e, f, g, j, k⟩ := h
    unfold tapE
    rw [if_pos ⟨a, b⟩, if_pos ⟨⟨c, d⟩, ⟨e, f⟩, g, j⟩, if_pos k]
  generalize tapE kind F T i = E at *
  have b1 : (E == 0) = false := by simpa using hE
  have b2 : (E != 0) = true := by simpa using hE
  clear hE
  by_cases h0 : 1 ≤ kind
  case neg =>
    go_enter Try.func7, Try.ntmps7
    go_wp2_with fail
    refine C0.mono ?_
    rintro e w1 ⟨rfl, q1⟩
    have HQ0 : Hid (Q W w1) := q1
    clear C0 q1
    go_wp2_with fail
    refine (HT.out w1).mono ?_
    rintro e w2 ⟨rfl, hw⟩
    obtain rfl := hw.symm
    clear hw HT HC
    go_wp2_with fail
    go_ret
    exact ⟨by first | rfl | simp, HQ0.out⟩
  case pos =>
    by_cases h1 : kind ≤ 3
    case neg =>
      go_enter Try.func7, Try.ntmps7
      go_wp2_with fail
      refine C0.mono ?_
      rintro e w1 ⟨rfl, q1⟩
      have HQ0 : Hid (Q W w1) := q1
      clear C0 q1
      go_wp2_with fail
      refine (HT.out w1).mono ?_
      rintro e w2 ⟨rfl, hw⟩
      obtain rfl := hw.symm
      clear hw HT HC
      go_wp2_with fail
      go_ret
      exact ⟨by first | rfl | simp, HQ0.out⟩
    case pos =>
      by_cases h2 : 1 ≤ F
      case neg =>
        go_enter Try.func7, Try.ntmps7
        go_wp2_with fail
        refine C0.mono ?_
        rintro e w1 ⟨rfl, q1⟩
        have HQ0 : Hid (Q W w1) := q1
        clear C0 q1
        go_wp2_with fail
        refine (HT.out w1).mono ?_
        rintro e w2 ⟨rfl, hw⟩
        obtain rfl := hw.symm
        clear hw HT HC
        go_wp2_with fail
        go_ret
        exact ⟨by first | rfl | simp, HQ0.out⟩
      case pos =>
        by_cases h3 : F ≤ 1024
        case neg =>
          go_enter Try.func7, Try.ntmps7
          go_wp2_with fail
          refine C0.mono ?_
          rintro e w1 ⟨rfl, q1⟩
          have HQ0 : Hid (Q W w1) := q1
          clear C0 q1
          go_wp2_with fail
          refine (HT.out w1).mono ?_
          rintro e w2 ⟨rfl, hw⟩
          obtain rfl := hw.symm
          clear hw HT HC
          go_wp2_with fail
          go_ret
          exact ⟨by first | rfl | simp, HQ0.out⟩
        case pos =>
          by_cases h4 : 1 ≤ T
          case neg =>
            go_enter Try.func7, Try.ntmps7
            go_wp2_with fail
            refine C0.mono ?_
            rintro e w1 ⟨rfl, q1⟩
            have HQ0 : Hid (Q W w1) := q1
            clear C0 q1
            go_wp2_with fail
            refine (HT.out w1).mono ?_
            rintro e w2 ⟨rfl, hw⟩
            obtain rfl := hw.symm
            clear hw HT HC
            go_wp2_with fail
            go_ret
            exact ⟨by first | rfl | simp, HQ0.out⟩
          case pos =>
            by_cases h5 : T ≤ 1024
            case neg =>
              go_enter Try.func7, Try.ntmps7
              go_wp2_with fail
              refine C0.mono ?_
              rintro e w1 ⟨rfl, q1⟩
              have HQ0 : Hid (Q W w1) := q1
              clear C0 q1
              go_wp2_with fail
              refine (HT.out w1).mono ?_
              rintro e w2 ⟨rfl, hw⟩
              obtain rfl := hw.symm
              clear hw HT HC
              go_wp2_with fail
              go_ret
              exact ⟨by first | rfl | simp, HQ0.out⟩
            case pos =>
              by_cases h6 : 0 ≤ i
              case neg =>
                go_enter Try.func7, Try.ntmps7
                go_wp2_with fail
                refine C0.mono ?_
                rintro e w1 ⟨rfl, q1⟩
                have HQ0 : Hid (Q W w1) := q1
                clear C0 q1
                go_wp2_with fail
                refine (HT.out w1).mono ?_
                rintro e w2 ⟨rfl, hw⟩
                obtain rfl := hw.symm
                clear hw HT HC
                go_wp2_with fail
                go_ret
                exact ⟨by first | rfl | simp, HQ0.out⟩
              case pos =>
                by_cases h7 : i < T
                case neg =>
                  go_enter Try.func7, Try.ntmps7
                  go_wp2_with fail
                  refine C0.mono ?_
                  rintro e w1 ⟨rfl, q1⟩
                  have HQ0 : Hid (Q W w1) := q1
                  clear C0 q1
                  go_wp2_with fail
                  refine (HT.out w1).mono ?_
                  rintro e w2 ⟨rfl, hw⟩
                  obtain rfl := hw.symm
                  clear hw HT HC
                  go_wp2_with fail
                  go_ret
                  exact ⟨by first | rfl | simp, HQ0.out⟩
                case pos =>
                  have h8 : ¬ F ≤ 15 * T := fun h => HC.out ⟨h0, h1, h2, h3, h4, h5, h6, h7, h⟩
                  go_enter Try.func7, Try.ntmps7
                  go_wp2_with fail
                  refine C0.mono ?_
                  rintro e w1 ⟨rfl, q1⟩
                  have HQ0 : Hid (Q W w1) := q1
                  clear C0 q1
                  go_wp2_with fail
                  refine (HT.out w1).mono ?_
                  rintro e w2 ⟨rfl, hw⟩
                  obtain rfl := hw.symm
                  clear hw HT HC
                  go_wp2_with fail
                  go_ret
                  exact ⟨by first | rfl | simp, HQ0.out⟩
theorem zf_bd {kind : Int} {F T i : Nat} {L : List (Int × Int)} (h : TapOk kind F T i L) (k : Nat) : -72057594037927936 ≤ zf (L.map Prod.snd) k ∧ zf (L.map Prod.snd) k ≤ 72057594037927937 := by
  unfold zf
  rw [List.getD_eq_getElem?_getD, List.getElem?_map]
  cases hk : L[k]? with
  | none => decide
  | some e => exact (h.at_ e (List.mem_of_getElem? hk)).2.2.2.2
theorem zf_part {kind : Int} {F T i : Nat} {L : List (Int × Int)} (h : TapOk kind F T i L) : ∀ k : Nat, -72057594037927936 * (k : Int) ≤ sumF (zf (L.map Prod.snd)) k ∧ sumF (zf (L.map Prod.snd)) k ≤ 72057594037927937 * (k : Int)
  | 0 => by simp [sumF]
  | k + 1 => by
    have a := zf_part h k
    have b := zf_bd h k
    show _ ≤ sumF _ k + zf _ k ∧ sumF _ k + zf _ k ≤ _
    omega
theorem zf_is {L : List (Int × Int)} {k : Nat} {e : Int × Int} (h : L[k]? = some e) : zf (L.map Prod.snd) k = e.2 := by
  unfold zf
  rw [List.getD_eq_getElem?_getD, List.getElem?_map, h]; rfl
theorem rise_at {L : List (Int × Int)} (h : L.Pairwise (fun x y => x.1 < y.1)) {j k : Nat} {a b : Int × Int} (hj : L[j]? = some a) (hk : L[k]? = some b) (hl : j < k) : a.1 < b.1 := by
  obtain ⟨h1, e1⟩ := List.getElem?_eq_some_iff.1 hj
  obtain ⟨h2, e2⟩ := List.getElem?_eq_some_iff.1 hk
  rw [← e1, ← e2]
  exact List.pairwise_iff_getElem.1 h j k h1 h2 hl
set_option maxHeartbeats 8000000 in
set_option maxRecDepth 1000000 in
theorem ones_good (W : World) (kind : Int) (F T i : Nat) (hk : kind = 1 ∨ kind = 2 ∨ kind = 3) (hs : Sz F T i) :
    Calls Try.prog 7 #[.int .i64 kind, .int .i64 (F : Int), .int .i64 (T : Int), .int .i64 (i : Int)] W fun e w' => e = .returned (.bool true) ∧ Q W w' := by
  have C0 := known9_any W
  have ok := taps_ok hk hs
  have HT : Hid (∀ w : World, Calls Try.prog 11 #[.int .i64 kind, .int .i64 (F : Int), .int .i64 (T : Int), .int .i64 (i : Int)] w fun e w' => ∃ v n, e = .returned (.tuple #[v, .int .i64 0]) ∧ Tl w w' v (tapsL (wlsV kind F T i)) n) := fun w => taps_good kind F T i w hk hs (wls_pos hk hs)
  generalize tapsL (wlsV kind F T i) = L at *
  have HOK : Hid (TapOk kind F T i L) := ok
  have h0 : 1 ≤ kind := by omega
  have h1 : kind ≤ 3 := by omega
  have h2 : 1 ≤ (F : Int) := by have := hs.f1; omega
  have h3 : (F : Int) ≤ 1024 := by have := hs.f2; omega
  have h4 : 1 ≤ (T : Int) := by have := hs.t1; omega
  have h5 : (T : Int) ≤ 1024 := by have := hs.t2; omega
  have h6 : 0 ≤ (i : Int) := by omega
  have h7 : (i : Int) < (T : Int) := by have := hs.i; omega
  have h8 : (F : Int) ≤ 15 * (T : Int) := by have := hs.ft; omega
  have hn1 : 1 ≤ L.length := by
    have := ok.sum
    cases L with
    | nil => exact absurd this (by decide)
    | cons _ _ => simp
  have hn2 := ok.len
  have Hsum : Hid (sumF (zf (L.map Prod.snd)) L.length = 65536) := (sndSum_zf L).symm.trans ok.sum
  clear ok hk hs
  go_enter Try.func7, Try.ntmps7
  go_wp2_with fail
  refine C0.mono ?_
  rintro e w1 ⟨rfl, q1⟩
  have HQ0 : Hid (Q W w1) := q1
  clear C0 q1
  go_wp2_with fail
  refine (HT.out w1).mono ?_
  rintro e w2 ⟨v, n, rfl, ht⟩
  obtain ⟨g, o, cap, rfl, hI⟩ := ht.tsl.some hn1
  have HI : Hid (∀ i e, L[i]? = some e → w2.cell? ⟨g, o + i * 2, none⟩ = some (.int .i64 e.1) ∧ w2.cell? ⟨g, o + i * 2 + 1, none⟩ = some (.int .i64 e.2)) := hI
  have HQ1 : Hid (Q W w2) := HQ0.out.trans ht.q
  clear ht hI HQ0 HT n
  obtain ⟨n, hn⟩ : ∃ n, L.length = n := ⟨_, rfl⟩
  rw [hn] at hn1 hn2 Hsum ⊢
  have HN : Hid (L.length = n) := hn
  clear hn
  have hn1z : 1 ≤ (n : Int) := by omega
  have hn2z : (n : Int) ≤ 64 := by omega
  go_wp2_with fail
  go_loopg [12, 13] n (fun gh s12 s13 wr => ∃ (j : Nat) (S : Int), s12 = .int .i64 S ∧ s13 = .int .i64 (j : Int) ∧ j ≤ n ∧ gh = n - j ∧ Hid (S = sumF (zf (L.map Prod.snd)) j) ∧ Hid (Q w2 wr))
  case atStart => exact ⟨0, 0, rfl, rfl, Nat.zero_le _, rfl, rfl, Q.refl w2⟩
  case round =>
    obtain ⟨j, S, rfl, rfl, hj, rfl, HS, HQ⟩ := hrel
    by_cases hlt : j < n
    · have hltz : (j : Int) < (n : Int) := by omega
      obtain ⟨⟨x1, x2⟩, hx⟩ : ∃ e, L[j]? = some e := ⟨_, List.getElem?_eq_getElem (by have := HN.out; omega)⟩
      obtain ⟨p1, p2⟩ := HI.out j _ hx
      have c1 := HQ.out.cell p1
      have c2 := HQ.out.cell p2
      simp only at c1 c2
      obtain ⟨d1, d2, d3, d4, d5, d6⟩ := HOK.out.at_ _ (List.mem_of_getElem? hx)
      simp only at d1 d2 d3 d4 d5 d6
      have e1 : ¬ x1 < 0 := by omega
      have e2 : ¬ (F : Int) ≤ x1 := by omega
      have e3 : (x2 == 0) = false := by simpa using d3
      have hp := zf_part HOK.out j
      rw [← HS.out] at hp
      have s1 : -4611686018427387904 ≤ S := by omega
      have s2 : S ≤ 4611686018427387968 := by omega
      have HS2 : Hid (S + x2 = sumF (zf (L.map Prod.snd)) (j + 1)) := by show S + x2 = sumF _ j + zf _ j; rw [HS.out, zf_is hx]
      have n0 := qw_some wr
      have f0 := qw_cell c1
      have f1 := qw_cell c2
      clear hp p1 p2 d1 d2 d3
      by_cases hj0 : j = 0
      · subst hj0
        clear hx
        simp only [Nat.zero_mul, Nat.add_zero] at c1 c2 f0 f1
        have hn0z : 0 < (n : Int) := by omega
        by_cases h3k : kind = 3
        · subst h3k
          go_wp2_with fail
          refine wp_region_quiet_Q (by kernel_rfl) (by kernel_rfl) ?_
          repeat (first | go_big_quiet_step (fail) | quiet_step (fail))
          refine wpQuiet_nil ?_
          intro w9 hw'
          have HQ9 : Hid (Q w2 w9) := HQ.out.trans (qw_out hw')
          have c2' := (qw_out hw').cell c2
          clear hw' n0 f0 f1 c1 c2
          go_wp2_with fail
          go_roundg (n - (0 + 1))
          case measure => go_light; omega
          case rel => go_light; exact ⟨0 + 1, S + x2, rfl, by simp, by omega, rfl, HS2, HQ9⟩
        · have b3 : (kind != 3) = true := by simpa using h3k
          have e4 : ¬ x2 < 0 := by have := d4 h3k; omega
          clear d4 h3k
          go_wp2_with fail
          refine wp_region_quiet_Q (by kernel_rfl) (by kernel_rfl) ?_
          repeat (first | go_big_quiet_step (fail) | quiet_step (fail))
          refine wpQuiet_nil ?_
          intro w9 hw'
          have HQ9 : Hid (Q w2 w9) := HQ.out.trans (qw_out hw')
          have c2' := (qw_out hw').cell c2
          clear hw' n0 f0 f1 c1 c2
          go_wp2_with fail
          go_roundg (n - (0 + 1))
          case measure => go_light; omega
          case rel => go_light; exact ⟨0 + 1, S + x2, rfl, by simp, by omega, rfl, HS2, HQ9⟩
      · obtain ⟨m, hm⟩ : ∃ m : Nat, j = m + 1 := ⟨j - 1, by omega⟩
        have em : (j : Int) - 1 = (m : Int) := by omega
        have hmz : (m : Int) < (n : Int) := by omega
        have hj0z : 0 < (j : Int) := by omega
        have hj0n : 0 < j := by omega
        have bj : decide (0 < j) = true := decide_eq_true hj0n
        obtain ⟨⟨y1, y2⟩, hy⟩ : ∃ e, L[m]? = some e := ⟨_, List.getElem?_eq_getElem (by have := HN.out; omega)⟩
        have c3 := HQ.out.cell (HI.out m _ hy).1
        simp only at c3
        have f2 := qw_cell c3
        have hri := rise_at HOK.out.rise hy hx (by omega)
        simp only at hri
        have e5 : ¬ x1 ≤ y1 := by omega
        have wm : IntKind.i64.wrap (m : Int) = (m : Int) := by rw [IntKind.wrap_i64]; omega
        clear hx hy hri hm hj0
        by_cases h3k : kind = 3
        · subst h3k
          go_wp2_with fail
          refine wp_region_quiet_Q (by kernel_rfl) (by kernel_rfl) ?_
          repeat (first | go_big_quiet_step (fail) | quiet_step (fail))
          refine wpQuiet_nil ?_
          intro w9 hw'
          have HQ9 : Hid (Q w2 w9) := HQ.out.trans (qw_out hw')
          have c2' := (qw_out hw').cell c2
          clear hw' n0 f0 f1 f2 c1 c2 c3
          go_wp2_with fail
          go_roundg (n - (j + 1))
          case measure => go_light; omega
          case rel => go_light; exact ⟨j + 1, S + x2, rfl, by simp, by omega, rfl, HS2, HQ9⟩
        · have b3 : (kind != 3) = true := by simpa using h3k
          have e4 : ¬ x2 < 0 := by have := d4 h3k; omega
          clear d4 h3k
          go_wp2_with fail
          refine wp_region_quiet_Q (by kernel_rfl) (by kernel_rfl) ?_
          repeat (first | go_big_quiet_step (fail) | quiet_step (fail))
          refine wpQuiet_nil ?_
          intro w9 hw'
          have HQ9 : Hid (Q w2 w9) := HQ.out.trans (qw_out hw')
          have c2' := (qw_out hw').cell c2
          clear hw' n0 f0 f1 f2 c1 c2 c3
          go_wp2_with fail
          go_roundg (n - (j + 1))
          case measure => go_light; omega
          case rel => go_light; exact ⟨j + 1, S + x2, rfl, by simp, by omega, rfl, HS2, HQ9⟩
    · have hge : ¬ (j : Int) < (n : Int) := by omega
      obtain rfl : j = n := by omega
      have hS : S = 65536 := HS.out.trans Hsum.out
      subst hS
      have g1 : ¬ (j : Int) < 1 := by omega
      have g2 : ¬ 64 < (j : Int) := by omega
      by_cases hFT : F = T
      · subst hFT
        obtain ⟨x, hL⟩ := HOK.out.one rfl
        have hj1 : j = 1 := by rw [← HN.out, hL]; rfl
        subst hj1
        have c1 := HQ.out.cell (HI.out 0 ((i : Int), x) (by rw [hL]; rfl)).1
        simp only [Nat.zero_mul, Nat.add_zero] at c1
        have b4 : ((F : Int) != (F : Int)) = false := by simp
        have b5 : ((i : Int) == (i : Int)) = true := by simp
        clear hL
        go_wp2_with fail
        go_ret
        exact ⟨by first | rfl | simp, HQ1.out.trans HQ.out⟩
      · have b4 : ((F : Int) != (T : Int)) = true := by simp; omega
        go_wp2_with fail
        go_ret
        exact ⟨by first | rfl | simp, HQ1.out.trans HQ.out⟩
theorem kones_walk (W : World) (kind F T i : Int) : Calls Try.prog 7 #[.int .i64 kind, .int .i64 F, .int .i64 T, .int .i64 i] W fun e w' => e = .returned (.bool true) ∧ Q W w' := by
  by_cases hE : tapE kind F T i = 0
  · have hc : (1 ≤ kind ∧ kind ≤ 3) ∧ ((1 ≤ F ∧ F ≤ 1024) ∧ (1 ≤ T ∧ T ≤ 1024) ∧ 0 ≤ i ∧ i < T) ∧ F ≤ 15 * T := by
      unfold tapE at hE
      split at hE
      · split at hE
        · split at hE
          · exact ⟨by assumption, by assumption, by assumption⟩
          · exact absurd hE (by decide)
        · exact absurd hE (by decide)
      · exact absurd hE (by decide)
    obtain ⟨⟨a, b⟩, ⟨⟨c, d⟩, ⟨e, f⟩, g, h⟩, k⟩ := hc
    obtain ⟨F', rfl⟩ : ∃ n : Nat, F = (n : Int) := ⟨F.toNat, by omega⟩
    obtain ⟨T', rfl⟩ : ∃ n : Nat, T = (n : Int) := ⟨T.toNat, by omega⟩
    obtain ⟨i', rfl⟩ : ∃ n : Nat, i = (n : Int) := ⟨i.toNat, by omega⟩
    exact ones_good W kind F' T' i' (by omega) ⟨by omega, by omega, by omega, by omega, by omega, by omega⟩
  · exact ones_bad W kind F T i hE
end Go.Proofs.Ytlbeoiopgkkcdaa
