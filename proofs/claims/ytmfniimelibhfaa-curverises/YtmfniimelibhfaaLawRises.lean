/- The statement on chains that rise: its walk. -/
import Derived.Test.YtmfniimelibhfaaCurveRisesM17
namespace Go.Proofs.Ytmfniimelibhfaa
open Go.RowKit
set_option linter.unusedVariables false
set_option linter.unusedSimpArgs false

theorem VLs.lls {w : World} {a : Option Addr} {N cap : Nat} {ll : List (List (Nat × Nat))} (h : VLs w (.slice a N cap) ll) (h1 : 1 ≤ ll.length) (hg : ∀ i, i < ll.length → Good (ll.getD i [])) : ∃ g o, a = some ⟨g, o, none⟩ ∧ LLs w g o ll := by
  rcases h with ⟨g, o, c, e, _, h⟩ | ⟨_, _, _, e⟩
  · injection e with e
    refine ⟨g, o, e, fun i hi => ?_⟩
    obtain ⟨u, a1, a2⟩ := h i hi
    rcases a2 with ⟨g', o', c', rfl, b1, b2⟩ | ⟨_, _, _, b⟩
    · exact ⟨g', o', c', a1, b1, b2⟩
    · have := (hg i hi).1
      rw [b] at this
      exact absurd this (by decide)
  · rw [e] at h1; exact absurd h1 (by decide)

set_option maxHeartbeats 4000000 in
set_option maxRecDepth 100000 in
theorem rises_walk (sv xv : Value) (ll : List (List (Nat × Nat))) (xs : List Nat) (hf : Fits ll) (hxt : ∀ i, xs.getD i 0 < 4294967296) (bl : ll.length ≤ 9223372036854775807) (bx : xs.length ≤ 9223372036854775807) (w : World) (hk : VLs w sv ll) (hx : USl w xv xs) :
    Calls Try.prog 7 #[sv, xv] w fun e w' => e = .returned (.bool true) ∧ Q w w' := by
  obtain ⟨a, cap, ev⟩ := hk.form
  obtain ⟨a', cap', ex⟩ := hx.form
  have HK : Hid (VLs w sv ll) := hk
  have HX : Hid (USl w xv xs) := hx
  have HF : Hid (Fits ll) := hf
  have HU : Hid (∀ i, xs.getD i 0 < 4294967296) := hxt
  obtain ⟨N, hN⟩ : ∃ N, ll.length = N := ⟨_, rfl⟩
  have HN : Hid (ll.length = N) := hN
  rw [ev, ex]
  rw [ev] at HK
  rw [ex] at HX
  rw [hN] at HK bl ⊢
  clear hk hx ev ex hxt hf hN
  go_enter Try.func7, Try.ntmps7
  go_wp2_with fail
  refine (known_any _).mono ?_
  rintro e w1 ⟨rfl, q1⟩
  by_cases h1 : 60 < xs.length
  · have g1 : (60 : Int) < (xs.length : Int) := by omega
    go_wp2_with fail
    go_ret
    exact ⟨rfl, q1⟩
  · have g1 : ¬ (60 : Int) < (xs.length : Int) := by omega
    have g2 : decide ((60 : Int) < (xs.length : Int)) = false := decide_eq_false g1
    have HM : Hid (Calls Try.prog 31 #[.slice a N cap] w1 (MayPost ll w1)) := may_any _ ll HF.out (by rw [HN.out]; exact bl) w1 (HK.out.next q1)
    go_wp2_with fail
    refine HM.out.mono ?_
    rintro e w2 ⟨q2, B, rfl, hB⟩
    clear HM
    cases B
    · go_wp2_with fail
      go_ret
      exact ⟨rfl, q1.trans q2⟩
    · obtain ⟨n1, n8, gd⟩ := hB rfl
      have GD : Hid (∀ i, i < ll.length → Good (ll.getD i [])) := gd
      obtain ⟨g, o, rfl, hl⟩ := HK.out.lls n1 gd
      have HL : Hid (LLs w g o ll) := hl
      replace q1 := q1.trans q2
      have OK : Hid (∀ l ∈ ll, COk l) := by
        intro l hl
        obtain ⟨i, hi, rfl⟩ := List.getElem_of_mem hl
        have := gd i hi
        rw [List.getD_eq_getElem?_getD, List.getElem?_eq_getElem hi] at this
        exact good_ok this (HF.out _ hl).2
      have HS : Hid (Calls Try.prog 32 #[.slice (some ⟨g, o, none⟩) N cap] w2 fun e w' => Q w2 w' ∧ ∃ b, e = .returned (.pointer (some ⟨b, 0, none⟩)) ∧ ChIs w' b ll) := by
        have := some_any g o cap ll HF.out n1 n8 gd w2 (hl.next q1)
        rw [HN.out] at this
        exact this
      rw [HN.out] at n1 n8
      clear hB gd hl q2 HK
      go_wp2_with fail
      refine HS.out.mono ?_
      rintro e w3 ⟨q3, b, rfl, hc⟩
      have HC : Hid (ChIs w3 b ll) := hc
      replace q1 := q1.trans q3
      clear hc q3 HS
      obtain ⟨n, rfl⟩ : ∃ n, N = n + 1 := ⟨N - 1, by omega⟩
      obtain ⟨gk, ok, ck, p1, p2, p3⟩ := HL.out.next q1 n (by rw [HN.out]; omega)
      have kd := GD.out n (by rw [HN.out]; omega)
      have E1 : Hid (∀ x, x < 4294967296 → nanN x = false → srung32 (ky (ll.getD n []) 0) ≤ srung32 (chainV ll x) ∧ srung32 (chainV ll x) ≤ srung32 (ky (ll.getD n []) ((ll.getD n []).length - 1))) := fun x hx hn => chain_ends HN.out OK.out hx hn
      have okK := OK.out _ (getD_mem (show n < ll.length by rw [HN.out]; omega))
      obtain ⟨K, hK⟩ : ∃ K, ll.getD n [] = K := ⟨_, rfl⟩
      rw [hK] at p1 p2 p3 kd E1 okK
      clear hK
      obtain ⟨m, hm⟩ : ∃ m, K.length = m + 1 := ⟨K.length - 1, by have := kd.1; omega⟩
      have y0 := (p3 0 (by omega)).2
      have y1 := (p3 m (by omega)).2
      rw [Nat.zero_mul, Nat.add_zero] at y0
      have f0 := fin_nan (okK.fin 0 (by omega)).2
      have f1 := fin_nan (okK.fin m (by omega)).2
      rw [hm, show m + 1 - 1 = m by omega] at E1
      rw [hm] at p1 p2
      obtain ⟨LO, hLO⟩ : ∃ LO, ky K 0 = LO := ⟨_, rfl⟩
      obtain ⟨HI, hHI⟩ : ∃ HI, ky K m = HI := ⟨_, rfl⟩
      rw [hLO] at y0 f0 E1
      rw [hHI] at y1 f1 E1
      have i1 : ((n + 1 : Nat) : Int) - 1 = (n : Int) := by omega
      have i2 : (0 : Int) ≤ (n : Int) := by omega
      have i3 : (n : Int) < ((n + 1 : Nat) : Int) := by omega
      have i4 : ((m + 1 : Nat) : Int) - 1 = (m : Int) := by omega
      have i5 : (0 : Int) ≤ (m : Int) := by omega
      have i6 : (m : Int) < ((m + 1 : Nat) : Int) := by omega
      have i7 : (0 : Int) < ((m + 1 : Nat) : Int) := by omega
      have l1 := f32from
      have m64 : m + 1 ≤ 64 := by have := kd.2.1; omega
      clear p3 kd okK hm hLO hHI
      have n0 := qw_some w3
      have d1 := qw_cell y0
      have d2 := qw_cell y1
      go_wp2_with fail
      refine wp_region_quiet_Q (by kernel_rfl) (by kernel_rfl) ?_
      repeat (first | go_big_quiet_step (fail) | quiet_step (fail))
      refine wpQuiet_nil ?_
      intro w4 hw'
      have hq4 := qw_out hw'
      clear hw' d1 d2 n0 y0 y1 p1 p2
      replace q1 := q1.trans hq4
      replace HC : Hid (ChIs w4 b ll) := HC.out.next hq4
      have HXr : Hid (USl w4 (.slice a' xs.length cap') xs) := HX.out.next q1
      clear HX HL GD hq4
      have CM : Hid (∀ (X : Nat) (W : World), X < 4294967296 → Q w4 W → Calls Try.prog 26 #[.pointer (some ⟨b, 0, none⟩), .int .u32 (X : Int)] W fun e w' => e = .returned (.int .u32 (chainV ll X : Nat)) ∧ Q W w') := fun X W hX hW => chat_any b ll OK.out (by rw [HN.out]; omega) X hX W (HC.out.next hW)
      have MD : Hid (∀ X, nanN X = true → chainV ll X = 2143289344) := fun X h => chain_made (by rw [HN.out]; omega) h
      have NM : Hid (∀ X, X < 4294967296 → nanN X = false → nanN (chainV ll X) = false) := fun X hx h => (chain_num OK.out h hx).1
      have MO : Hid (∀ X Y, nanN X = false → nanN Y = false → srung32 X ≤ srung32 Y → srung32 (chainV ll X) ≤ srung32 (chainV ll Y)) := fun X Y h1 h2 h => chain_mono OK.out h1 h2 h
      go_wp2_with fail
      go_loopg [9] xs.length (fun m s9 wr => ∃ k : Nat, s9 = .int .i64 k ∧ k + m = xs.length ∧ Q w4 wr)
      case atStart => exact ⟨0, rfl, by omega, Q.refl _⟩
      case round =>
        obtain ⟨k, rfl, hm, hqx⟩ := hrel
        by_cases hkn : k < xs.length
        · obtain ⟨gx, ox, hae⟩ : ∃ gx ox, a' = some ⟨gx, ox, none⟩ := by
            rcases HXr.out with ⟨g, o, c, e, _⟩ | ⟨_, _, _, e⟩
            · injection e with e; exact ⟨g, o, e⟩
            · exfalso; rw [e] at hkn; exact Nat.not_lt_zero _ hkn
          subst hae
          have XC : Hid (∀ i, i < xs.length → w4.cell? ⟨gx, ox + i, none⟩ = some (.int .u32 (xs.getD i 0 : Nat))) := by
            intro i hi
            rcases HXr.out with ⟨g, o, c, e, _, h⟩ | ⟨_, _, _, e⟩
            · injection e with e; injection e with e; injection e with e1 e2; subst e1; subst e2; exact h i hi
            · exfalso; rw [e] at hkn; exact Nat.not_lt_zero _ hkn
          have cx := hqx.cell (XC.out k hkn)
          have hxk := HU.out k
          have hi0 : (0 : Int) ≤ (k : Int) := by omega
          have hi1 : (k : Int) < (xs.length : Int) := by omega
          obtain ⟨X, hX⟩ : ∃ X, xs.getD k 0 = X := ⟨_, rfl⟩
          rw [hX] at cx hxk
          clear hX
          cases hn : nanN X
          · have o1 : FloatKind.f32.format.order X X = some .eq := by show Ieee.single.order X X = some .eq; rw [order_of hn hn]; simp
            obtain ⟨e1, e2⟩ := E1.out X hxk hn
            have ny := NM.out X hxk hn
            have CX := fun W h => CM.out X W hxk h
            have MX : Hid (∀ Y, nanN Y = false → srung32 X ≤ srung32 Y → srung32 (chainV ll X) ≤ srung32 (chainV ll Y)) := fun Y hy h => MO.out X Y hn hy h
            obtain ⟨Z, hZ⟩ : ∃ Z, chainV ll X = Z := ⟨_, rfl⟩
            rw [hZ] at e1 e2 ny MX
            have HCX : Hid (∀ W : World, Q w4 W → Calls Try.prog 26 #[.pointer (some ⟨b, 0, none⟩), .int .u32 (X : Int)] W fun e w' => e = .returned (.int .u32 (Z : Nat)) ∧ Q W w') := fun W h => by rw [← hZ]; exact CX W h
            clear CX hZ
            go_wp2_with fail
            refine (HCX.out _ hqx).mono ?_
            rintro e w5 ⟨rfl, q5⟩
            replace hqx := hqx.trans q5
            clear q5 HCX cx
            have og : FloatKind.f32.format.order Z LO = some .gt ∨ FloatKind.f32.format.order Z LO = some .eq := order_ge ny f0 e1
            have ol : FloatKind.f32.format.order Z HI = some .lt ∨ FloatKind.f32.format.order Z HI = some .eq := order_le ny f1 e2
            have NX : Hid (nanN X = false ∧ nanN Z = false) := ⟨hn, ny⟩
            clear e1 e2 hn ny
            rcases og with og | og <;> rcases ol with ol | ol
            all_goals
              go_wp2_with fail
              clear og ol o1
              go_loopg [12] xs.length (fun m s12 wx => ∃ j : Nat, s12 = .int .i64 j ∧ j + m = xs.length ∧ Q w4 wx)
              case atStart => exact ⟨0, rfl, by omega, hqx⟩
              case round =>
                obtain ⟨j, rfl, hmj, hqj⟩ := hrel
                by_cases hjn : j < xs.length
                · have cy := hqj.cell (XC.out j hjn)
                  have hyk := HU.out j
                  have hj0 : (0 : Int) ≤ (j : Int) := by omega
                  have hj1 : (j : Int) < (xs.length : Int) := by omega
                  obtain ⟨Y, hY⟩ : ∃ Y, xs.getD j 0 = Y := ⟨_, rfl⟩
                  rw [hY] at cy hyk
                  clear hY
                  cases hny : nanN Y
                  · by_cases hle : srung32 X ≤ srung32 Y
                    · have oxy : FloatKind.f32.format.order X Y = some .lt ∨ FloatKind.f32.format.order X Y = some .eq := order_le NX.out.1 hny hle
                      have nu := NM.out Y hyk hny
                      have ouv : FloatKind.f32.format.order Z (chainV ll Y) = some .lt ∨ FloatKind.f32.format.order Z (chainV ll Y) = some .eq := order_le NX.out.2 nu (MX.out Y hny hle)
                      have CY := fun W h => CM.out Y W hyk h
                      obtain ⟨U, hU⟩ : ∃ U, chainV ll Y = U := ⟨_, rfl⟩
                      rw [hU] at ouv
                      have HCY : Hid (∀ W : World, Q w4 W → Calls Try.prog 26 #[.pointer (some ⟨b, 0, none⟩), .int .u32 (Y : Int)] W fun e w' => e = .returned (.int .u32 (U : Nat)) ∧ Q W w') := fun W h => by rw [← hU]; exact CY W h
                      clear CY hU nu hle hny
                      rcases oxy with oxy | oxy <;> rcases ouv with ouv | ouv
                      all_goals
                        go_wp2_with fail
                        refine (HCY.out _ hqj).mono ?_
                        rintro e w6 ⟨rfl, q6⟩
                        go_wp2_with fail
                        go_roundg (xs.length - (j + 1))
                        case measure => go_light; omega
                        case rel => go_light; exact ⟨j + 1, by go_num, by omega, hqj.trans q6⟩
                    · have oxy : FloatKind.f32.format.order X Y = some .gt := order_gt NX.out.1 hny hle
                      clear hle hny
                      go_wp2_with fail
                      go_roundg (xs.length - (j + 1))
                      case measure => go_light; omega
                      case rel => go_light; exact ⟨j + 1, by go_num, by omega, hqj⟩
                  · have oxy : FloatKind.f32.format.order X Y = none := order_nan2 X (read32_nan hny)
                    clear hny
                    go_wp2_with fail
                    go_roundg (xs.length - (j + 1))
                    case measure => go_light; omega
                    case rel => go_light; exact ⟨j + 1, by go_num, by omega, hqj⟩
                · go_wp2_with fail
                  go_roundg (xs.length - (k + 1))
                  case measure => go_light; omega
                  case rel => go_light; exact ⟨k + 1, by go_num, by omega, hqj⟩
          · have o1 : FloatKind.f32.format.order X X = none := order_nan2 X (read32_nan hn)
            have HCX : Hid (∀ W : World, Q w4 W → Calls Try.prog 26 #[.pointer (some ⟨b, 0, none⟩), .int .u32 (X : Int)] W fun e w' => e = .returned (.int .u32 2143289344) ∧ Q W w') := fun W h => by
              have := CM.out X W hxk h
              rw [MD.out X hn] at this
              exact this
            clear hn
            go_wp2_with fail
            refine (HCX.out _ hqx).mono ?_
            rintro e w5 ⟨rfl, q5⟩
            go_wp2_with fail
            go_roundg (xs.length - (k + 1))
            case measure => go_light; omega
            case rel => go_light; exact ⟨k + 1, by go_num, by omega, hqx.trans q5⟩
        · go_wp2_with fail
          go_ret
          exact ⟨rfl, q1.trans hqx⟩
end Go.Proofs.Ytmfniimelibhfaa
