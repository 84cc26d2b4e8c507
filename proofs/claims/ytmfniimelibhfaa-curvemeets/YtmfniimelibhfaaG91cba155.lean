/- Least and At there and back: nothing but numbers. -/
import Derived.Test.YtmfniimelibhfaaG6a610ac7
import Derived.Test.YtmfniimelibhfaaGafed34c4
import Derived.Test.YtmfniimelibhfaaG765a302d
namespace Go.Proofs.Ytmfniimelibhfaa
open Go.RowKit
set_option linter.unusedVariables false
set_option linter.unusedSimpArgs false

theorem least_facts {f : Nat → Nat} {F L : Nat} (hF : F < 4294967296) (hL : L < 4294967296) (hk : keyN F < keyN L) (h : Climbs f F L) (y : Nat) :
    (lpE f L y = 43 ∧ lpX f F L y = 0 ∧ lpB f F L y = 0 ∧ lpH f F L y = false ∧ comesB f L y = false) ∨
    (lpE f L y = 0 ∧ comesB f (lpX f F L y) y = true ∧ nanN (f (lpX f F L y)) = false ∧ comesB f L y = true ∧ ((lpH f F L y = false ∧ lpX f F L y = F) ∨ (lpH f F L y = true ∧ comesB f (lpB f F L y) y = false ∧ nanN (f (lpB f F L y)) = false))) := by
  have kL := keyN_lt hL
  have pL : placeN F (keyN L - keyN F) = L := (place_key hL (by omega)).symm
  cases hc : comesB f L y
  · left
    unfold lpE lpX lpB lpH
    rw [hc]
    exact ⟨rfl, rfl, rfl, rfl, rfl⟩
  · right
    obtain ⟨b1, b2, b3, b4⟩ := bis_facts (fun i => comesB f (placeN F i) y) (keyN L - keyN F) 0 (keyN L - keyN F) rfl (Nat.zero_le _)
    obtain ⟨R, hR⟩ : ∃ R, lN f F L y = R := ⟨_, rfl⟩
    have hR' : bis (fun i => comesB f (placeN F i) y) (keyN L - keyN F - 0) 0 (keyN L - keyN F) = R := hR
    rw [hR'] at b1 b2 b3 b4
    have e1 : lpE f L y = 0 := by unfold lpE; rw [hc]; rfl
    have e2 : lpX f F L y = placeN F R := by unfold lpX; rw [hc, hR]; rfl
    have e3 : lpB f F L y = if R = 0 then 0 else placeN F (R - 1) := by unfold lpB; rw [hc, hR]; rfl
    have e4 : lpH f F L y = decide (R ≠ 0) := by unfold lpH; rw [hc, hR]; rfl
    have pR : comesB f (placeN F R) y = true := by
      rcases b3 with b3 | b3
      · rw [b3, pL]; exact hc
      · exact b3
    rw [e1, e2, e3, e4]
    refine ⟨rfl, pR, h.num R (by omega), rfl, ?_⟩
    by_cases r0 : R = 0
    · left; rw [r0, place_0 hF]; exact ⟨decide_eq_false (by omega), rfl⟩
    · right
      rw [if_neg r0]
      refine ⟨decide_eq_true r0, ?_, h.num (R - 1) (by omega)⟩
      rcases b4 with b4 | b4
      · omega
      · exact b4
/-- Where it comes to what it has at a place: there, or ahead of it. -/
theorem least_at {f : Nat → Nat} {F L : Nat} (hF : F < 4294967296) (hL : L < 4294967296) (hk : keyN F < keyN L) (h : Climbs f F L) {x : Nat} (hx : x < 4294967296) (h1 : keyN F ≤ keyN x) (h2 : keyN x ≤ keyN L) :
    lpE f L (f x) = 0 ∧ keyN (lpX f F L (f x)) ≤ keyN x := by
  have kL := keyN_lt hL
  have pL : placeN F (keyN L - keyN F) = L := (place_key hL (by omega)).symm
  have px := place_key (F := F) hx h1
  have nx : nanN (f x) = false := by rw [px]; exact h.num _ (by omega)
  have cx : comesB f x (f x) = true := by rw [comes_iff nx, nx, lessB_num nx nx]; simp
  have cp : comesB f (placeN F (keyN x - keyN F)) (f x) = true := by rw [← px]; exact cx
  have cL : comesB f L (f x) = true := by
    have := h.up (y := f x) (i := keyN x - keyN F) (j := keyN L - keyN F) (by omega) (by omega) cp
    rw [pL] at this; exact this
  obtain ⟨b1, b2, b3, b4⟩ := bis_facts (fun i => comesB f (placeN F i) (f x)) (keyN L - keyN F) 0 (keyN L - keyN F) rfl (Nat.zero_le _)
  obtain ⟨R, hR⟩ : ∃ R, lN f F L (f x) = R := ⟨_, rfl⟩
  have hR' : bis (fun i => comesB f (placeN F i) (f x)) (keyN L - keyN F - 0) 0 (keyN L - keyN F) = R := hR
  rw [hR'] at b1 b2 b3 b4
  have e1 : lpE f L (f x) = 0 := by unfold lpE; rw [cL]; rfl
  have e2 : lpX f F L (f x) = placeN F R := by unfold lpX; rw [cL, hR]; rfl
  rw [e1, e2, key_place (by omega)]
  refine ⟨rfl, ?_⟩
  rcases b4 with b4 | b4
  · omega
  · apply Nat.le_of_not_lt
    intro hlt
    have := h.up (y := f x) (i := keyN x - keyN F) (j := R - 1) (by omega) (by omega) cp
    rw [this] at b4
    exact absurd b4 (by decide)
theorem comes_ge {f : Nat → Nat} {x y : Nat} (hn : nanN (f x) = false) (h : comesB f x y = true) : nanN y = false ∧ (Ieee.single.order (f x) y = some .gt ∨ Ieee.single.order (f x) y = some .eq) := by
  rw [comes_iff hn] at h
  cases hy : nanN y
  · rw [hy, lessB_num hn hy] at h
    have : ¬ srung32 (f x) < srung32 y := by simpa using h
    exact ⟨rfl, order_ge hn hy (by omega)⟩
  · rw [hy] at h; exact absurd h (by simp)
theorem comes_lt {f : Nat → Nat} {x y : Nat} (hn : nanN (f x) = false) (hy : nanN y = false) (h : comesB f x y = false) : srung32 (f x) < srung32 y := by
  rw [comes_iff hn, hy, lessB_num hn hy] at h
  simpa using h
end Go.Proofs.Ytmfniimelibhfaa
/- The statement on Least and At there and back: its walk. -/
namespace Go.Proofs.Ytmfniimelibhfaa
open Go.RowKit
set_option linter.unusedVariables false
set_option linter.unusedSimpArgs false

/-- What a chain has at a place. -/
def HasAt (ll : List (List (Nat × Nat))) (x z : Nat) : Prop := chainV ll x = z ∧ x < 4294967296
theorem climbs_last {f : Nat → Nat} {F L : Nat} (hL : L < 4294967296) (hk : keyN F < keyN L) (h : Climbs f F L) : nanN (f L) = false := by
  have := h.num (keyN L - keyN F) (by omega)
  rw [← place_key (F := F) hL (by omega)] at this
  exact this
theorem order_out {f : Nat → Nat} {L y : Nat} (hn : nanN (f L) = false) (h : comesB f L y = false) : Ieee.single.order y (f L) = none ∨ Ieee.single.order y (f L) = some .gt := by
  cases hy : nanN y
  · right
    have := comes_lt hn hy h
    exact order_gt hy hn (by omega)
  · left; exact order_nan1 _ (read32_nan hy)
theorem order_lt' {a b : Nat} (ha : nanN a = false) (hb : nanN b = false) (h : srung32 a < srung32 b) : Ieee.single.order a b = some .lt := by
  rw [order_of ha hb, Int.compare_eq_lt.2 h]

set_option maxHeartbeats 4000000 in
set_option maxRecDepth 100000 in
theorem meets_walk (sv xv yv : Value) (ll : List (List (Nat × Nat))) (xs ys : List Nat) (hf : Fits ll) (hxt : ∀ i, xs.getD i 0 < 4294967296) (hyt : ∀ i, ys.getD i 0 < 4294967296) (bl : ll.length ≤ 9223372036854775807) (bx : xs.length ≤ 9223372036854775807) (by' : ys.length ≤ 9223372036854775807) (w : World) (hk : VLs w sv ll) (hx : USl w xv xs) (hy : USl w yv ys) :
    Calls Try.prog 8 #[sv, xv, yv] w fun e w' => e = .returned (.bool true) ∧ Q w w' := by
  obtain ⟨a, cap, ev⟩ := hk.form
  obtain ⟨a', cap', ex⟩ := hx.form
  obtain ⟨a'', cap'', ey⟩ := hy.form
  have HK : Hid (VLs w sv ll) := hk
  have HX : Hid (USl w xv xs) := hx
  have HY : Hid (USl w yv ys) := hy
  have HV : Hid (∀ i, ys.getD i 0 < 4294967296) := hyt
  have HF : Hid (Fits ll) := hf
  have HU : Hid (∀ i, xs.getD i 0 < 4294967296) := hxt
  obtain ⟨N, hN⟩ : ∃ N, ll.length = N := ⟨_, rfl⟩
  have HN : Hid (ll.length = N) := hN
  rw [ev, ex, ey]
  rw [ev] at HK
  rw [ex] at HX
  rw [ey] at HY
  rw [hN] at HK bl ⊢
  clear hk hx hy ev ex ey hxt hyt hf hN
  go_enter Try.func8, Try.ntmps8
  go_wp2_with fail
  refine (known_any _).mono ?_
  rintro e w1 ⟨rfl, q1⟩
  by_cases h1 : 60 < xs.length
  · have g1 : (60 : Int) < (xs.length : Int) := by omega
    go_wp2_with fail
    go_ret
    exact ⟨rfl, q1⟩
  · have g1 : ¬ (60 : Int) < (xs.length : Int) := by omega
    have g2 : decide ((60 : Int) < (xs.length : Int)) = false := decide_eq_false g1
    by_cases h2 : 60 < ys.length
    · have g3 : (60 : Int) < (ys.length : Int) := by omega
      go_wp2_with fail
      go_ret
      exact ⟨rfl, q1⟩
    · have g3 : ¬ (60 : Int) < (ys.length : Int) := by omega
      have g4 : decide ((60 : Int) < (ys.length : Int)) = false := decide_eq_false g3
      have HM : Hid (Calls Try.prog 31 #[.slice a N cap] w1 (MayPost ll w1)) := may_any _ ll HF.out (by rw [HN.out]; exact bl) w1 (HK.out.next q1)
      go_wp2_with fail
      refine HM.out.mono ?_
      rintro e w2 ⟨q2, B, rfl, hB⟩
      clear HM
      cases B
      · go_wp2_with fail
        go_ret
        exact ⟨rfl, q1.trans q2⟩
      · obtain ⟨n1, n8, gd⟩ := hB rfl
        have GD : Hid (∀ i, i < ll.length → Good (ll.getD i [])) := gd
        obtain ⟨g, o, rfl, hl⟩ := HK.out.lls n1 gd
        have HL : Hid (LLs w g o ll) := hl
        replace q1 := q1.trans q2
        have OK : Hid (∀ l ∈ ll, COk l) := by
          intro l hl
          obtain ⟨i, hi, rfl⟩ := List.getElem_of_mem hl
          have := gd i hi
          rw [List.getD_eq_getElem?_getD, List.getElem?_eq_getElem hi] at this
          exact good_ok this (HF.out _ hl).2
        have HS : Hid (Calls Try.prog 32 #[.slice (some ⟨g, o, none⟩) N cap] w2 fun e w' => Q w2 w' ∧ ∃ b, e = .returned (.pointer (some ⟨b, 0, none⟩)) ∧ ChIs w' b ll) := by
          have := some_any g o cap ll HF.out n1 n8 gd w2 (hl.next q1)
          rw [HN.out] at this
          exact this
        rw [HN.out] at n1 n8
        clear hB gd hl q2 HK
        go_wp2_with fail
        refine HS.out.mono ?_
        rintro e w3 ⟨q3, b, rfl, hc⟩
        have HC : Hid (ChIs w3 b ll) := hc
        replace q1 := q1.trans q3
        clear hc q3 HS
        have HO : Hid (LOk ll) := ⟨by rw [HN.out]; exact n1, by rw [HN.out]; exact n8, OK.out⟩
        obtain ⟨n, rfl⟩ : ∃ n, N = n + 1 := ⟨N - 1, by omega⟩
        obtain ⟨gk, ok, ck, p1, p2, p3⟩ := HL.out.next q1 0 (by rw [HN.out]; omega)
        have okK := HO.out.ok
        have hFl := HO.out.first.1
        have hLl := HO.out.first.2
        have hkk := HO.out.keys
        have HCL : Hid (Climbs (chainV ll) (kx (ll.getD 0 []) 0) (kx (ll.getD 0 []) ((ll.getD 0 []).length - 1))) := climbs_chain HO.out
        have R2 : ∀ (Y : Nat) (W : World), Q w3 W → Calls Try.prog 29 #[.pointer (some ⟨b, 0, none⟩), .int .u32 (Y : Int)] W fun e w' => e = .returned (.tuple #[prV (lpX (chainV ll) (kx (ll.getD 0 []) 0) (kx (ll.getD 0 []) ((ll.getD 0 []).length - 1)) Y) (lpB (chainV ll) (kx (ll.getD 0 []) 0) (kx (ll.getD 0 []) ((ll.getD 0 []).length - 1)) Y) (lpH (chainV ll) (kx (ll.getD 0 []) 0) (kx (ll.getD 0 []) ((ll.getD 0 []).length - 1)) Y), .int .i64 (lpE (chainV ll) (kx (ll.getD 0 []) ((ll.getD 0 []).length - 1)) Y)]) ∧ Q W w' := fun Y W hW => ch_cleastm_any b ll HO.out Y W (HC.out.next hW)
        have R3 : ∀ (Y X B : Nat) (H : Bool) (W : World), X < 4294967296 → B < 4294967296 → Q w3 W → Calls Try.prog 30 #[.pointer (some ⟨b, 0, none⟩), .int .u32 (Y : Int), prV X B H] W fun e w' => e = .returned (.bool (checkB (chainV ll) (kx (ll.getD 0 []) 0) (kx (ll.getD 0 []) ((ll.getD 0 []).length - 1)) Y X B H)) ∧ Q W w' := fun Y X B H W hX hB hW => ch_ccheckm_any b ll HO.out Y X B H hX hB W (HC.out.next hW)
        have CM : Hid (∀ (X : Nat) (W : World), X < 4294967296 → Q w3 W → Calls Try.prog 26 #[.pointer (some ⟨b, 0, none⟩), .int .u32 (X : Int)] W fun e w' => e = .returned (.int .u32 (chainV ll X : Nat)) ∧ Q W w') := fun X W hX hW => ch_at_any b ll HO.out X hX W (HC.out.next hW)
        obtain ⟨K, hK⟩ : ∃ K, ll.getD 0 [] = K := ⟨_, rfl⟩
        rw [hK] at p1 p2 p3 okK hFl hLl hkk HCL
        simp only [hK] at R2 R3
        clear hK
        obtain ⟨m, hm⟩ : ∃ m, K.length = m + 1 := ⟨K.length - 1, by have := okK.two; omega⟩
        have y0 := (p3 0 (by omega)).1
        have y1 := (p3 m (by omega)).1
        rw [Nat.zero_mul, Nat.add_zero] at y0
        rw [Nat.add_zero] at p1
        rw [show K.length - 1 = m by omega] at hLl hkk HCL
        simp only [show K.length - 1 = m by omega] at R2 R3
        have m64 : m + 1 ≤ 64 := by have := okK.many; omega
        rw [hm] at p1 p2
        obtain ⟨F, hF⟩ : ∃ F, kx K 0 = F := ⟨_, rfl⟩
        obtain ⟨L, hL⟩ : ∃ L, kx K m = L := ⟨_, rfl⟩
        rw [hF] at y0 hFl hkk HCL
        rw [hL] at y1 hLl hkk HCL
        simp only [hF, hL] at R2 R3
        have i1 : (0 : Int) < ((n + 1 : Nat) : Int) := by omega
        have i4 : ((m + 1 : Nat) : Int) - 1 = (m : Int) := by omega
        have i5 : (0 : Int) ≤ (m : Int) := by omega
        have i6 : (m : Int) < ((m + 1 : Nat) : Int) := by omega
        have i7 : (0 : Int) < ((m + 1 : Nat) : Int) := by omega
        have l1 := f32from
        have HR2 : Hid (∀ (Y : Nat) (W : World), Q w3 W → Calls Try.prog 29 #[.pointer (some ⟨b, 0, none⟩), .int .u32 (Y : Int)] W fun e w' => e = .returned (.tuple #[prV (lpX (chainV ll) F L Y) (lpB (chainV ll) F L Y) (lpH (chainV ll) F L Y), .int .i64 (lpE (chainV ll) L Y)]) ∧ Q W w') := R2
        have HR3 : Hid (∀ (Y X B : Nat) (H : Bool) (W : World), X < 4294967296 → B < 4294967296 → Q w3 W → Calls Try.prog 30 #[.pointer (some ⟨b, 0, none⟩), .int .u32 (Y : Int), prV X B H] W fun e w' => e = .returned (.bool (checkB (chainV ll) F L Y X B H)) ∧ Q W w') := R3
        have HXr : Hid (USl w3 (.slice a' xs.length cap') xs) := HX.out.next q1
        have HYr : Hid (USl w3 (.slice a'' ys.length cap'') ys) := HY.out.next q1
        clear R2 R3 p3 okK hm hF hL HX HY
        have n0 := qw_some w3
        have d1 := qw_cell y0
        have d2 := qw_cell y1
        have d3 := qw_cell p1
        go_wp2_with fail
        refine wp_region_quiet_Q (by kernel_rfl) (by kernel_rfl) ?_
        repeat (first | go_big_quiet_step (fail) | quiet_step (fail))
        refine wpQuiet_nil ?_
        intro w4 hw'
        have hq4 := qw_out hw'
        clear hw' d1 d2 d3 n0 y0 y1 p1 p2
        have AT : Hid (∀ (x z : Nat), HasAt ll x z → ∀ W : World, Q w3 W → Calls Try.prog 26 #[.pointer (some ⟨b, 0, none⟩), .int .u32 (x : Int)] W fun e w' => e = .returned (.int .u32 (z : Nat)) ∧ Q W w') := fun x z h W hW => by
          rw [← h.1]
          exact CM.out x W h.2 hW
        go_wp2_with fail
        go_loopg [10] ys.length (fun m s10 wr => ∃ k : Nat, s10 = .int .i64 k ∧ k + m = ys.length ∧ Q w3 wr)
        case atStart => exact ⟨0, rfl, by omega, hq4⟩
        case round =>
          obtain ⟨k, rfl, hm, hqx⟩ := hrel
          by_cases hkn : k < ys.length
          · obtain ⟨gx, ox, hae⟩ : ∃ gx ox, a'' = some ⟨gx, ox, none⟩ := by
              rcases HYr.out with ⟨g, o, c, e, _⟩ | ⟨_, _, _, e⟩
              · injection e with e; exact ⟨g, o, e⟩
              · exfalso; rw [e] at hkn; exact Nat.not_lt_zero _ hkn
            subst hae
            have cx : wr.cell? ⟨gx, ox + k, none⟩ = some (.int .u32 (ys.getD k 0 : Nat)) := by
              rcases HYr.out with ⟨g, o, c, e, _, h⟩ | ⟨_, _, _, e⟩
              · injection e with e; injection e with e; injection e with e1 e2; subst e1; subst e2; exact hqx.cell (h k hkn)
              · exfalso; rw [e] at hkn; exact Nat.not_lt_zero _ hkn
            have hyk := HV.out k
            have hi0 : (0 : Int) ≤ (k : Int) := by omega
            have hi1 : (k : Int) < (ys.length : Int) := by omega
            obtain ⟨Y, hY⟩ : ∃ Y, ys.getD k 0 = Y := ⟨_, rfl⟩
            rw [hY] at cx hyk
            clear hY
            have RR := HR2.out Y
            obtain ⟨x1, x2⟩ := lp_lt (f := chainV ll) (F := F) hLl hkk Y
            have CS := check_same hFl hLl hkk HCL.out Y (lpX (chainV ll) F L Y) (lpB (chainV ll) F L Y) (lpH (chainV ll) F L Y) x1 x2
            have R3 := HR3.out Y (lpX (chainV ll) F L Y) (lpB (chainV ll) F L Y) (lpH (chainV ll) F L Y)
            rw [CS] at R3
            have LF := least_facts hFl hLl hkk HCL.out Y
            clear CS
            generalize lpX (chainV ll) F L Y = X at *
            generalize lpB (chainV ll) F L Y = B at *
            generalize lpH (chainV ll) F L Y = H at *
            generalize lpE (chainV ll) L Y = E at *
            have HRR : Hid (∀ W : World, Q w3 W → Calls Try.prog 29 #[.pointer (some ⟨b, 0, none⟩), .int .u32 (Y : Int)] W fun e w' => e = .returned (.tuple #[.agg #[.int .u32 X, .int .u32 B, .bool H], .int .i64 E]) ∧ Q W w') := RR
            clear RR
            rcases LF with ⟨rfl, rfl, rfl, rfl, cf⟩ | ⟨rfl, ca, na, cl, hh⟩
            · have nl := climbs_last hLl hkk HCL.out
              have oo : FloatKind.f32.format.order Y (chainV ll L) = none ∨ FloatKind.f32.format.order Y (chainV ll L) = some .gt := order_out nl cf
              obtain ⟨Z, hZ⟩ : ∃ Z, chainV ll L = Z := ⟨_, rfl⟩
              rw [hZ] at oo
              have HA : Hid (∀ W : World, Q w3 W → Calls Try.prog 26 #[.pointer (some ⟨b, 0, none⟩), .int .u32 (L : Int)] W fun e w' => e = .returned (.int .u32 (Z : Nat)) ∧ Q W w') := AT.out L Z ⟨hZ, hLl⟩
              clear cf nl hZ R3
              go_wp2_with fail
              refine (HRR.out _ hqx).mono ?_
              rintro e w5 ⟨rfl, q5⟩
              replace cx := q5.cell cx
              replace hqx := hqx.trans q5
              have cx' := fun c t => cell_1 cx c t
              clear q5
              rcases oo with oo | oo
              all_goals
                go_wp2_with fail
                refine (HA.out _ (hqx.cells _ _)).mono ?_
                rintro e w6 ⟨rfl, q6⟩
                go_wp2_with fail
                go_roundg (ys.length - (k + 1))
                case measure => go_light; omega
                case rel => go_light; exact ⟨k + 1, by go_num, by omega, (hqx.cells _ _).trans q6⟩
            · obtain ⟨ny, og⟩ := comes_ge na ca
              have og' : FloatKind.f32.format.order (chainV ll X) Y = some .gt ∨ FloatKind.f32.format.order (chainV ll X) Y = some .eq := og
              have HCK : Hid (∀ W : World, Q w3 W → Calls Try.prog 30 #[.pointer (some ⟨b, 0, none⟩), .int .u32 (Y : Int), .agg #[.int .u32 X, .int .u32 B, .bool H]] W fun e w' => e = .returned (.bool true) ∧ Q W w') := fun W hW => by
                have := R3 W x1 x2 hW
                simpa [prV] using this
              have hb : (H = false ∧ X = F) ∨ (H = true ∧ FloatKind.f32.format.order (chainV ll B) Y = some .lt) := by
                rcases hh with h | ⟨h1, h2, h3⟩
                · exact Or.inl h
                · exact Or.inr ⟨h1, order_lt' h3 ny (comes_lt h3 ny h2)⟩
              obtain ⟨ZX, hZX⟩ : ∃ Z, chainV ll X = Z := ⟨_, rfl⟩
              obtain ⟨ZB, hZB⟩ : ∃ Z, chainV ll B = Z := ⟨_, rfl⟩
              rw [hZX] at og'
              rw [hZB] at hb
              have a1 : HasAt ll X ZX := ⟨hZX, x1⟩
              have a2 : HasAt ll B ZB := ⟨hZB, x2⟩
              clear R3 ca na cl hh og hZX hZB ny
              go_wp2_with fail
              refine (HRR.out _ hqx).mono ?_
              rintro e w5 ⟨rfl, q5⟩
              replace cx := q5.cell cx
              replace hqx := hqx.trans q5
              have cx' := fun c t => cell_1 cx c t
              clear q5 HRR
              go_wp2_with fail
              generalize hw6 : w5.alloc _ = w6
              have c0 : w6.cell? ⟨w5.heap.size, 0, none⟩ = some (.int .u32 X) := by rw [← hw6]; simp [go_sem]
              have c1 : w6.cell? ⟨w5.heap.size, 1, none⟩ = some (.int .u32 B) := by rw [← hw6]; simp [go_sem]
              have c2 : w6.cell? ⟨w5.heap.size, 2, none⟩ = some (.bool H) := by rw [← hw6]; simp [go_sem]
              replace cx : w6.cell? ⟨gx, ox + k, none⟩ = some (.int .u32 Y) := by rw [← hw6]; exact cx' _ _
              replace hqx : Q w3 w6 := by rw [← hw6]; exact hqx.cells _ _
              obtain ⟨bp, hbp⟩ : ∃ bp, w5.heap.size = bp := ⟨_, rfl⟩
              rw [hbp] at c0 c1 c2 ⊢
              clear hw6 hbp cx'
              have n0 := qw_some w6
              have d0 := qw_cell c0
              have d1 := qw_cell c1
              have d2 := qw_cell c2
              have d3 := qw_cell cx
              have A2 : Hid (∀ (x z : Nat), HasAt ll x z → ∀ n : QW w6, Calls Try.prog 26 #[.pointer (some ⟨b, 0, none⟩), .int .u32 (x : Int)] n.x fun e w' => e = .returned (.int .u32 (z : Nat)) ∧ Q n.x w') := fun x z h n => AT.out x z h n.x (hqx.trans n.q)
              have C2 : Hid (∀ n : QW w6, Calls Try.prog 30 #[.pointer (some ⟨b, 0, none⟩), .int .u32 (Y : Int), .agg #[.int .u32 X, .int .u32 B, .bool H]] n.x fun e w' => e = .returned (.bool true) ∧ Q n.x w') := fun n => HCK.out n.x (hqx.trans n.q)
              rcases hb with ⟨rfl, hXF⟩ | ⟨rfl, ob⟩ <;> rcases og' with og | og
              all_goals
                try (have hXX : ((X : Int) != (F : Int)) = false := by (rw [hXF]; simp)
                     clear hXF)
                refine wp_region_quiet_Q (by kernel_rfl) (by kernel_rfl) ?_
                repeat (first | go_big_quiet_step (first | (go_at_call 26; exact calls_qw (A2.out _ _ (by assumption) _)) | (go_at_call 30; exact calls_qw (C2.out _))) | quiet_step (first | (go_at_call 26; exact calls_qw (A2.out _ _ (by assumption) _)) | (go_at_call 30; exact calls_qw (C2.out _))))
                refine wpQuiet_nil ?_
                intro w7 hw'
                have hq7 := qw_out hw'
                clear hw' d0 d1 d2 d3 n0 A2 C2 og
                go_wp2_with fail
                go_roundg (ys.length - (k + 1))
                case measure => go_light; omega
                case rel => go_light; exact ⟨k + 1, by go_num, by omega, hqx.trans hq7⟩
          · go_wp2_with fail
            go_loopg [14] xs.length (fun m s14 wx => ∃ j : Nat, s14 = .int .i64 j ∧ j + m = xs.length ∧ Q w3 wx)
            case atStart => exact ⟨0, rfl, by omega, hqx⟩
            case round =>
              obtain ⟨j, rfl, hmj, hqj⟩ := hrel
              by_cases hjn : j < xs.length
              · obtain ⟨gx, ox, hae⟩ : ∃ gx ox, a' = some ⟨gx, ox, none⟩ := by
                  rcases HXr.out with ⟨g, o, c, e, _⟩ | ⟨_, _, _, e⟩
                  · injection e with e; exact ⟨g, o, e⟩
                  · exfalso; rw [e] at hjn; exact Nat.not_lt_zero _ hjn
                subst hae
                have cx : wr.cell? ⟨gx, ox + j, none⟩ = some (.int .u32 (xs.getD j 0 : Nat)) := by
                  rcases HXr.out with ⟨g, o, c, e, _, h⟩ | ⟨_, _, _, e⟩
                  · injection e with e; injection e with e; injection e with e1 e2; subst e1; subst e2; exact hqj.cell (h j hjn)
                  · exfalso; rw [e] at hjn; exact Nat.not_lt_zero _ hjn
                have hxk := HU.out j
                have hi0 : (0 : Int) ≤ (j : Int) := by omega
                have hi1 : (j : Int) < (xs.length : Int) := by omega
                obtain ⟨X, hX⟩ : ∃ X, xs.getD j 0 = X := ⟨_, rfl⟩
                rw [hX] at cx hxk
                clear hX
                have kx := keyN_lt hxk
                have kf := keyN_lt hFl
                have kl := keyN_lt hLl
                have LA : Hid (keyN F ≤ keyN X → keyN X ≤ keyN L → lpE (chainV ll) L (chainV ll X) = 0 ∧ keyN (lpX (chainV ll) F L (chainV ll X)) ≤ keyN X) := fun h1 h2 => least_at hFl hLl hkk HCL.out hxk h1 h2
                go_wp2_with fail
                refine (rkey_any X hxk _).mono ?_
                rintro e w5 ⟨rfl, rfl⟩
                go_wp2_with fail
                refine (rkey_any F hFl _).mono ?_
                rintro e w5 ⟨rfl, rfl⟩
                by_cases h1 : keyN X < keyN F
                · have g1 : ((keyN X : Nat) : Int) < ((keyN F : Nat) : Int) := by omega
                  go_wp2_with fail
                  go_roundg (xs.length - (j + 1))
                  case measure => go_light; omega
                  case rel => go_light; exact ⟨j + 1, by go_num, by omega, hqj⟩
                · have g1 : ¬ ((keyN X : Nat) : Int) < ((keyN F : Nat) : Int) := by omega
                  have g2 : decide (((keyN X : Nat) : Int) < ((keyN F : Nat) : Int)) = false := decide_eq_false g1
                  go_wp2_with fail
                  refine (rkey_any L hLl _).mono ?_
                  rintro e w5 ⟨rfl, rfl⟩
                  by_cases h2 : keyN L < keyN X
                  · have g3 : ((keyN L : Nat) : Int) < ((keyN X : Nat) : Int) := by omega
                    go_wp2_with fail
                    go_roundg (xs.length - (j + 1))
                    case measure => go_light; omega
                    case rel => go_light; exact ⟨j + 1, by go_num, by omega, hqj⟩
                  · have g3 : ¬ ((keyN L : Nat) : Int) < ((keyN X : Nat) : Int) := by omega
                    have g4 : decide (((keyN L : Nat) : Int) < ((keyN X : Nat) : Int)) = false := decide_eq_false g3
                    obtain ⟨z1, z2⟩ := LA.out (by omega) (by omega)
                    have CX := fun W h => CM.out X W hxk h
                    have RR := HR2.out (chainV ll X)
                    obtain ⟨x1, x2⟩ := lp_lt (f := chainV ll) (F := F) hLl hkk (chainV ll X)
                    obtain ⟨Z, hZ⟩ : ∃ Z, chainV ll X = Z := ⟨_, rfl⟩
                    rw [hZ] at z1 z2 RR x1 x2
                    rw [z1] at RR
                    have HCX : Hid (∀ W : World, Q w3 W → Calls Try.prog 26 #[.pointer (some ⟨b, 0, none⟩), .int .u32 (X : Int)] W fun e w' => e = .returned (.int .u32 (Z : Nat)) ∧ Q W w') := fun W h => by rw [← hZ]; exact CX W h
                    clear CX hZ LA z1
                    generalize lpX (chainV ll) F L Z = A at *
                    generalize lpB (chainV ll) F L Z = B at *
                    generalize lpH (chainV ll) F L Z = H at *
                    have HRR : Hid (∀ W : World, Q w3 W → Calls Try.prog 29 #[.pointer (some ⟨b, 0, none⟩), .int .u32 (Z : Int)] W fun e w' => e = .returned (.tuple #[.agg #[.int .u32 A, .int .u32 B, .bool H], .int .i64 0]) ∧ Q W w') := RR
                    have g5 : ¬ ((keyN X : Nat) : Int) < ((keyN A : Nat) : Int) := by omega
                    have g6 : decide (((keyN X : Nat) : Int) < ((keyN A : Nat) : Int)) = false := decide_eq_false g5
                    clear RR
                    go_wp2_with fail
                    refine (HCX.out _ hqj).mono ?_
                    rintro e w5 ⟨rfl, q5⟩
                    replace hqj := hqj.trans q5
                    clear q5 cx
                    go_wp2_with fail
                    refine (HRR.out _ hqj).mono ?_
                    rintro e w6 ⟨rfl, q6⟩
                    replace hqj := hqj.trans q6
                    clear q6
                    go_wp2_with fail
                    refine (rkey_any A x1 _).mono ?_
                    rintro e w7 ⟨rfl, rfl⟩
                    go_wp2_with fail
                    go_roundg (xs.length - (j + 1))
                    case measure => go_light; omega
                    case rel => go_light; exact ⟨j + 1, by go_num, by omega, hqj.cells _ _⟩
              · go_wp2_with fail
                go_ret
                exact ⟨rfl, q1.trans hqj⟩
end Go.Proofs.Ytmfniimelibhfaa
