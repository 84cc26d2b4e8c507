/- The third statement about curves: its walk. -/
import Derived.Test.YtfolecnjaaakeaaTurnM
namespace Go.Proofs.Ytfolecnjaaakeaa
open Go.RowKit
set_option linter.unusedVariables false
set_option linter.unusedSimpArgs false

set_option maxHeartbeats 4000000 in
set_option maxRecDepth 100000 in
theorem turns_walk (sv xv : Value) (l : List (Nat × Nat)) (xs : List Nat) (hlt : ∀ i, kx l i < 4294967296 ∧ ky l i < 4294967296) (hxt : ∀ i, xs.getD i 0 < 4294967296) (bl : l.length ≤ 9223372036854775807) (bx : xs.length ≤ 9223372036854775807) (w : World) (hk : KSl w sv l) (hx : USl w xv xs) :
    Calls Try.prog 5 #[sv, xv] w fun e w' => e = .returned (.bool true) ∧ Q w w' := by
  obtain ⟨a, cap, ev⟩ := hk.form
  obtain ⟨a', cap', ex⟩ := hx.form
  have HK : Hid (KSl w sv l) := hk
  have HX : Hid (USl w xv xs) := hx
  have HT : Hid (∀ i, kx l i < 4294967296 ∧ ky l i < 4294967296) := hlt
  have HU : Hid (∀ i, xs.getD i 0 < 4294967296) := hxt
  rw [ev, ex]
  rw [ev] at HK
  rw [ex] at HX
  clear hk hx ev ex hlt hxt
  go_enter Try.func5, Try.ntmps5
  go_wp2_with fail
  refine (known_any _).mono ?_
  rintro e w1 ⟨rfl, q1⟩
  by_cases h1 : 200 < l.length
  · have g1 : (200 : Int) < (l.length : Int) := by omega
    go_wp2_with fail
    go_ret
    exact ⟨rfl, q1⟩
  · have g1 : ¬ (200 : Int) < (l.length : Int) := by omega
    have g2 : decide ((200 : Int) < (l.length : Int)) = false := decide_eq_false g1
    by_cases h2 : 200 < xs.length
    · have g3 : (200 : Int) < (xs.length : Int) := by omega
      go_wp2_with fail
      go_ret
      exact ⟨rfl, q1⟩
    · have g3 : ¬ (200 : Int) < (xs.length : Int) := by omega
      have g4 : decide ((200 : Int) < (xs.length : Int)) = false := decide_eq_false g3
      go_wp2_with fail
      refine (makes_any _ l (by omega) HT.out _ (HK.out.next q1)).mono ?_
      rintro e w2 ⟨q2, ⟨b, rfl, hc, hg⟩ | ⟨rfl, hg⟩⟩
      · have HC : Hid (CIs w2 b 0 l) := hc
        have HG : Hid (COk l) := good_ok hg HT.out
        have l2 : 2 ≤ l.length := hg.1
        have l64 : l.length ≤ 64 := hg.2.1
        replace q1 := q1.trans q2
        clear hc hg q2
        obtain ⟨gl, ol, hae⟩ : ∃ gl ol, a = some ⟨gl, ol, none⟩ := by
          rcases HK.out with ⟨g, o, c, e, _⟩ | ⟨_, _, _, e⟩
          · injection e with e; exact ⟨g, o, e⟩
          · exfalso; rw [e] at l2; exact absurd l2 (by decide)
        subst hae
        have HKl : Hid (KIs w gl ol l ∧ l.length ≤ cap) := by
          rcases HK.out with ⟨g, o, c, e, hcp, h⟩ | ⟨_, _, _, e⟩
          · injection e with e _ e3; injection e with e; injection e with e1 e2; subst e1; subst e2; subst e3; exact ⟨h, hcp⟩
          · exfalso; rw [e] at l2; exact absurd l2 (by decide)
        clear HK g1 g2 g3 g4
        go_wp2_with fail
        refine (rturn_any gl ol cap l HG.out _ (HKl.out.1.next q1)).mono ?_
        rintro e w3 ⟨q3, ⟨lv, v3, rfl⟩ | ⟨lv, gw, cw, rfl, k1, k2, k3⟩⟩
        · have LV : Hid (Level l) := lv
          replace q1 := q1.trans q3
          replace HC : Hid (CIs w3 b 0 l) := HC.out.next q3
          clear lv q3
          go_wp2_with fail
          refine (cturn_any b 0 l HG.out _ HC.out).mono ?_
          rintro e w4 ⟨q4, ⟨_, rfl⟩ | ⟨nl, _⟩⟩
          · go_wp2_with fail
            go_ret
            exact ⟨rfl, q1.trans q4⟩
          · exact absurd LV.out nl
        · have NL : Hid (¬ Level l) := lv
          have KW : Hid (KIs w3 gw 0 (sw l)) := k3
          replace q1 := q1.trans q3
          replace HC : Hid (CIs w3 b 0 l) := HC.out.next q3
          clear lv q3 k3
          go_wp2_with fail
          refine (cturn_any b 0 l HG.out _ HC.out).mono ?_
          rintro e w4 ⟨q4, ⟨lv, _⟩ | ⟨_, bt, rfl, _, ht⟩⟩
          · exact absurd lv NL.out
          · have CT : Hid (CIs w4 bt 0 (sw l)) := ht
            clear ht
            obtain ⟨S, hS⟩ : ∃ S, sw l = S := ⟨_, rfl⟩
            have HS : Hid (sw l = S) := hS
            rw [hS] at KW CT k1 ⊢
            have SO : Hid (COk S) := by rw [← hS]; exact sw_ok HG.out NL.out
            have s2 : 2 ≤ S.length := SO.out.two
            have s64 : S.length ≤ 64 := SO.out.many
            clear hS
            replace q1 := q1.trans q4
            replace HC : Hid (CIs w4 b 0 l) := HC.out.next q4
            replace KW : Hid (KIs w4 gw 0 S) := KW.out.next q4
            clear q4
            go_wp2_with fail
            refine (knots_any bt 0 S (by omega) (by omega) _ CT.out).mono ?_
            rintro e w5 ⟨g5, c5, rfl, k51, k52, k53, k54, q5⟩
            have K5 : Hid (KIs w5 g5 0 S) := k53
            clear k53 k54
            go_wp2_with fail
            refine (same_any _ _ S (by omega) _ (Or.inl ⟨g5, 0, c5, rfl, k51, K5.out⟩) (Or.inl ⟨gw, 0, cw, rfl, k1, KW.out.next q5⟩)).mono ?_
            rintro e w6 ⟨rfl, q6⟩
            replace q5 := q5.trans q6
            clear q6 K5
            replace q1 := q1.trans q5
            replace HC : Hid (CIs w6 b 0 l) := HC.out.next q5
            replace KW : Hid (KIs w6 gw 0 S) := KW.out.next q5
            replace CT : Hid (CIs w6 bt 0 S) := CT.out.next q5
            clear q5
            go_wp2_with fail
            refine (cturn_any bt 0 S SO.out _ CT.out).mono ?_
            rintro e w7 ⟨q7, ⟨lv, _⟩ | ⟨_, bb, rfl, _, hb⟩⟩
            · exact absurd lv (by rw [← HS.out]; exact sw_level HG.out)
            · rw [← HS.out, sw_sw] at hb
              have CB : Hid (CIs w7 bb 0 l) := hb
              clear hb
              replace q1 := q1.trans q7
              replace HC : Hid (CIs w7 b 0 l) := HC.out.next q7
              replace KW : Hid (KIs w7 gw 0 S) := KW.out.next q7
              replace CT : Hid (CIs w7 bt 0 S) := CT.out.next q7
              clear q7
              go_wp2_with fail
              refine (knots_any bb 0 l (by omega) (by omega) _ CB.out).mono ?_
              rintro e w8 ⟨g8, c8, rfl, k81, k82, k83, k84, q8⟩
              have K8 : Hid (KIs w8 g8 0 l) := k83
              clear k83 k84
              go_wp2_with fail
              refine (same_any _ _ l (by omega) _ (Or.inl ⟨g8, 0, c8, rfl, k81, K8.out⟩) (Or.inl ⟨gl, ol, cap, rfl, HKl.out.2, HKl.out.1.next (q1.trans q8)⟩)).mono ?_
              rintro e w9 ⟨rfl, q9⟩
              replace q8 := q8.trans q9
              clear q9 K8
              replace q1 := q1.trans q8
              replace HC : Hid (CIs w9 b 0 l) := HC.out.next q8
              replace KW : Hid (KIs w9 gw 0 S) := KW.out.next q8
              replace CT : Hid (CIs w9 bt 0 S) := CT.out.next q8
              have KL : Hid (KIs w9 gl ol l) := HKl.out.1.next q1
              have HXr : Hid (USl w9 (.slice a' xs.length cap') xs) := HX.out.next q1
              have BK : Hid (∀ i, i < l.length → atV S (ky l i) = kx l i) := fun i hi => by rw [← HS.out]; exact back_knot HG.out NL.out hi
              have TU : Hid (∀ (x : Nat) (W : World), x < 4294967296 → Q w9 W → Calls Try.prog 21 #[.slice (some ⟨gl, ol, none⟩) l.length cap, .pointer (some ⟨bt, 0, none⟩), .pointer (some ⟨b, 0, none⟩), .int .u32 (x : Int)] W fun e w' => e = .returned (.bool true) ∧ Q W w') := fun x W hx hW => turned_any gl ol cap bt b l HG.out NL.out x hx W (KL.out.next hW) (by rw [HS.out]; exact CT.out.next hW) (HC.out.next hW)
              clear q8 CB HX
              go_wp2_with fail
              go_loopg [14] l.length (fun m s14 wr => ∃ k : Nat, s14 = .int .i64 k ∧ k + m = l.length ∧ Q w9 wr)
              case atStart => exact ⟨0, rfl, by omega, Q.refl _⟩
              case round =>
                obtain ⟨k, rfl, hm, hqx⟩ := hrel
                by_cases hkn : k < l.length
                · obtain ⟨x1, x2⟩ := KL.out k hkn
                  replace x1 := hqx.cell x1
                  replace x2 := hqx.cell x2
                  have hyl := (HG.out.lt k).2
                  have hxl := (HG.out.lt k).1
                  have bk := BK.out k hkn
                  have fx := fin_nan (HG.out.fin k hkn).1
                  have i0 : (0 : Int) ≤ (k : Int) := by omega
                  have i1 : (k : Int) < (l.length : Int) := by omega
                  generalize kx l k = X at *
                  generalize ky l k = Y at *
                  have HA : Hid (∀ n : QW wr, Calls Try.prog 13 #[.pointer (some ⟨bt, 0, none⟩), .int .u32 (Y : Int)] n.x fun e w' => e = .returned (.int .u32 (X : Nat)) ∧ Q n.x w') := fun n => by
                    rw [← bk]
                    exact at_any bt 0 S SO.out Y hyl n.x (CT.out.next (hqx.trans n.q))
                  have HE : Hid (∀ W : World, Calls Try.prog 20 #[.int .u32 (X : Int), .int .u32 (X : Int)] W fun e w' => e = .returned (.bool true) ∧ w' = W) := fun W => by
                    rw [← equalB_self fx]
                    exact rsame_any X X hxl hxl W
                  clear bk
                  have n0 := qw_some wr
                  have d1 := qw_cell x1
                  have d2 := qw_cell x2
                  go_wp2_with fail
                  refine wp_region_quiet_Q (by kernel_rfl) (by kernel_rfl) ?_
                  repeat (first | go_big_quiet_step (first | (go_at_call 13; exact calls_qw (HA.out _)) | (go_at_call 20; exact calls_qs (HE.out _))) | quiet_step (first | (go_at_call 13; exact calls_qw (HA.out _)) | (go_at_call 20; exact calls_qs (HE.out _))))
                  refine wpQuiet_nil ?_
                  intro w10 hw'
                  have hq10 := qw_out hw'
                  clear hw' d1 d2 n0 x1 x2 HA HE
                  go_wp2_with fail
                  go_roundg (l.length - (k + 1))
                  case measure => go_light; omega
                  case rel => go_light; exact ⟨k + 1, by go_num, by omega, hqx.trans hq10⟩
                · go_wp2_with fail
                  go_loopg [15] xs.length (fun m s15 wx => ∃ j : Nat, s15 = .int .i64 j ∧ j + m = xs.length ∧ Q w9 wx)
                  case atStart => exact ⟨0, rfl, by omega, hqx⟩
                  case round =>
                    obtain ⟨j, rfl, hmj, hqj⟩ := hrel
                    by_cases hjn : j < xs.length
                    · obtain ⟨gx, ox, hae⟩ : ∃ gx ox, a' = some ⟨gx, ox, none⟩ := by
                        rcases HXr.out with ⟨g, o, c, e, _⟩ | ⟨_, _, _, e⟩
                        · injection e with e; exact ⟨g, o, e⟩
                        · exfalso; rw [e] at hjn; exact Nat.not_lt_zero _ hjn
                      subst hae
                      have cx : wr.cell? ⟨gx, ox + j, none⟩ = some (.int .u32 (xs.getD j 0 : Nat)) := by
                        rcases HXr.out with ⟨g, o, c, e, _, h⟩ | ⟨_, _, _, e⟩
                        · injection e with e; injection e with e; injection e with e1 e2; subst e1; subst e2; exact hqj.cell (h j hjn)
                        · exfalso; rw [e] at hjn; exact Nat.not_lt_zero _ hjn
                      have hi0 : (0 : Int) ≤ (j : Int) := by omega
                      have hi1 : (j : Int) < (xs.length : Int) := by omega
                      have hxk := HU.out j
                      obtain ⟨X, hX⟩ : ∃ X, xs.getD j 0 = X := ⟨_, rfl⟩
                      rw [hX] at cx hxk
                      clear hX
                      have A1 : ∀ n : QW wr, Calls Try.prog 13 #[.pointer (some ⟨bt, 0, none⟩), .int .u32 (X : Int)] n.x fun e w' => e = .returned (.int .u32 (atV S X : Nat)) ∧ Q n.x w' := fun n => at_any bt 0 S SO.out X hxk _ (CT.out.next (hqj.trans n.q))
                      have A2 : ∀ n : QW wr, Calls Try.prog 14 #[.slice (some ⟨gw, 0, none⟩) S.length cw, .int .u32 (X : Int)] n.x fun e w' => e = .returned (.int .u32 (atV S X : Nat)) ∧ Q n.x w' := fun n => rat_any gw 0 cw S SO.out X hxk _ (KW.out.next (hqj.trans n.q))
                      generalize atV S X = Z at A1 A2
                      have HW1 : Hid (∀ n : QW wr, Calls Try.prog 13 #[.pointer (some ⟨bt, 0, none⟩), .int .u32 (X : Int)] n.x fun e w' => e = .returned (.int .u32 (Z : Nat)) ∧ Q n.x w') := A1
                      have HW2 : Hid (∀ n : QW wr, Calls Try.prog 14 #[.slice (some ⟨gw, 0, none⟩) S.length cw, .int .u32 (X : Int)] n.x fun e w' => e = .returned (.int .u32 (Z : Nat)) ∧ Q n.x w') := A2
                      have HW3 : Hid (∀ n : QW wr, Calls Try.prog 21 #[.slice (some ⟨gl, ol, none⟩) l.length cap, .pointer (some ⟨bt, 0, none⟩), .pointer (some ⟨b, 0, none⟩), .int .u32 (X : Int)] n.x fun e w' => e = .returned (.bool true) ∧ Q n.x w') := fun n => TU.out X n.x hxk (hqj.trans n.q)
                      clear A1 A2
                      have n0 := qw_some wr
                      have d1 := qw_cell cx
                      have hb : ((Z : Int) != (Z : Int)) = false := by simp
                      go_wp2_with fail
                      refine wp_region_quiet_Q (by kernel_rfl) (by kernel_rfl) ?_
                      repeat (first | go_big_quiet_step (first | (go_at_call 13; exact calls_qw (HW1.out _)) | (go_at_call 14; exact calls_qw (HW2.out _)) | (go_at_call 21; exact calls_qw (HW3.out _))) | quiet_step (first | (go_at_call 13; exact calls_qw (HW1.out _)) | (go_at_call 14; exact calls_qw (HW2.out _)) | (go_at_call 21; exact calls_qw (HW3.out _))))
                      refine wpQuiet_nil ?_
                      intro w11 hw'
                      have hq11 := qw_out hw'
                      clear hw' d1 n0 cx HW1 HW2 HW3
                      go_wp2_with fail
                      go_roundg (xs.length - (j + 1))
                      case measure => go_light; omega
                      case rel => go_light; exact ⟨j + 1, by go_num, by omega, hqj.trans hq11⟩
                    · go_wp2_with fail
                      go_ret
                      exact ⟨rfl, q1.trans hqj⟩
      · go_wp2_with fail
        go_ret
        exact ⟨rfl, q1.trans q2⟩
end Go.Proofs.Ytfolecnjaaakeaa
