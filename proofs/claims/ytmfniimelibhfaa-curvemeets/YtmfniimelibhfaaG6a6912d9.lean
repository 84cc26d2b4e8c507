/- The third statement about curves: its walk. -/
import Derived.Test.YtmfniimelibhfaaGfc616c6a
namespace Go.Proofs.Ytmfniimelibhfaa
open Go.RowKit
set_option linter.unusedVariables false
set_option linter.unusedSimpArgs false

set_option maxHeartbeats 4000000 in
set_option maxRecDepth 100000 in
theorem turns_walk (sv xv : Value) (l : List (Nat × Nat)) (xs : List Nat) (hlt : ∀ i, kx l i < 4294967296 ∧ ky l i < 4294967296) (hxt : ∀ i, xs.getD i 0 < 4294967296) (bl : l.length ≤ 9223372036854775807) (bx : xs.length ≤ 9223372036854775807) (w : World) (hk : KSl w sv l) (hx : USl w xv xs) :
    Calls Try.prog 5 #[sv, xv] w fun e w' => e = .returned (.bool true) ∧ Q w w' := by
  obtain ⟨a, cap, ev⟩ := hk.form
  obtain ⟨a', cap', ex⟩ := hx.form
  have HK : Hid (KSl w sv l) := hk
  have HX : Hid (USl w xv xs) := hx
  have HT : Hid (∀ i, kx l i < 4294967296 ∧ ky l i < 4294967296) := hlt
  have HU : Hid (∀ i, xs.getD i 0 < 4294967296) := hxt
  rw [ev, ex]
  rw [ev] at HK
  rw [ex] at HX
  clear hk hx ev ex hlt hxt
  go_enter Try.func5, Try.ntmps5
  go_wp2_with fail
  refine (known_any _).mono ?_
  rintro e w1 ⟨rfl, q1⟩
  by_cases h1 : 200 < l.length
  · have g1 : (200 : Int) < (l.length : Int) := by omega
    go_wp2_with fail
    go_ret
    exact ⟨rfl, q1⟩
  · have g1 : ¬ (200 : Int) < (l.length : Int) := by omega
    have g2 : decide ((200 : Int) < (l.length : Int)) = false := decide_eq_false g1
    by_cases h2 : 200 < xs.length
    · have g3 : (200 : Int) < (xs.length : Int) := by omega
      go_wp2_with fail
      go_ret
      exact ⟨rfl, q1⟩
    · have g3 : ¬ (200 : Int) < (xs.length : Int) := by omega
      have g4 : decide ((200 : Int) < (xs.length : Int)) = false := decide_eq_false g3
      go_wp2_with fail
      refine (makes_any _ l (by omega) HT.out _ (HK.out.next q1)).mono ?_
      rintro e w2 ⟨q2, ⟨b, rfl, hc, hg⟩ | ⟨rfl, hg⟩⟩
      · have HC : Hid (CIs w2 b 0 l) := hc
        have HG : Hid (COk l) := good_ok hg HT.out
        have l2 : 2 ≤ l.length := hg.1
        have l64 : l.length ≤ 64 := hg.2.1
        replace q1 := q1.trans q2
        clear hc hg q2
        obtain ⟨gl, ol, hae⟩ : ∃ gl ol, a = some ⟨gl, ol, none⟩ := by
          rcases HK.out with ⟨g, o, c, e, _⟩ | ⟨_, _, _, e⟩
          · injection e with e; exact ⟨g, o, e⟩
          · exfalso; rw [e] at l2; exact absurd l2 (by decide)
        subst hae
        have HKl : Hid (KIs w gl ol l ∧ l.length ≤ cap) := by
          rcases HK.out with ⟨g, o, c, e, hcp, h⟩ | ⟨_, _, _, e⟩
          · injection e with e _ e3; injection e with e; injection e with e1 e2; subst e1; subst e2; subst e3; exact ⟨h, hcp⟩
          · exfalso; rw [e] at l2; exact absurd l2 (by decide)
        clear HK g1 g2 g3 g4
        go_wp2_with fail
        refine (rturn_any gl ol cap l HG.out _ (HKl.out.1.next q1)).mono ?_
        rintro e w3 ⟨q3, ⟨lv, v3, rfl⟩ | ⟨lv, gw, cw, rfl, k1, k2, k3⟩⟩
        · have LV : Hid (Level l) := lv
          replace q1 := q1.trans q3
          replace HC : Hid (CIs w3 b 0 l) := HC.out.next q3
          clear lv q3
          go_wp2_with fail
          refine (cturn_any b 0 l HG.out _ HC.out).mono ?_
          rintro e w4 ⟨q4, ⟨_, rfl⟩ | ⟨nl, _⟩⟩
          · go_wp2_with fail
            go_ret
            exact ⟨rfl, q1.trans q4⟩
          · exact absurd LV.out nl
        · have NL : Hid (¬ Level l) := lv
          have KW : Hid (KIs w3 gw 0 (sw l)) := k3
          replace q1 := q1.trans q3
          replace HC : Hid (CIs w3 b 0 l) := HC.out.next q3
          clear lv q3 k3
          go_wp2_with fail
          refine (cturn_any b 0 l HG.out _ HC.out).mono ?_
          rintro e w4 ⟨q4, ⟨lv, _⟩ | ⟨_, bt, rfl, _, ht⟩⟩
          · exact absurd lv NL.out
          · have CT : Hid (CIs w4 bt 0 (sw l)) := ht
            clear ht
            obtain ⟨S, hS⟩ : ∃ S, sw l = S := ⟨_, rfl⟩
            have HS : Hid (sw l = S) := hS
            rw [hS] at KW CT k1 ⊢
            have SO : Hid (COk S) := by rw [← hS]; exact sw_ok HG.out NL.out
            have s2 : 2 ≤ S.length := SO.out.two
            have s64 : S.length ≤ 64 := SO.out.many
            clear hS
            replace q1 := q1.trans q4
            replace HC : Hid (CIs w4 b 0 l) := HC.out.next q4
            replace KW : Hid (KIs w4 gw 0 S) := KW.out.next q4
            clear q4
            go_wp2_with fail
            refine (knots_any bt 0 S (by omega) (by omega) _ CT.out).mono ?_
            rintro e w5 ⟨g5, c5, rfl, k51, k52, k53, k54, q5⟩
            have K5 : Hid (KIs w5 g5 0 S) := k53
            clear k53 k54
            go_wp2_with fail
            refine (same_any _ _ S (by omega) _ (Or.inl ⟨g5, 0, c5, rfl, k51, K5.out⟩) (Or.inl ⟨gw, 0, cw, rfl, k1, KW.out.next q5⟩)).mono ?_
            rintro e w6 ⟨rfl, q6⟩
            replace q5 := q5.trans q6
            clear q6 K5
            replace q1 := q1.trans q5
            replace HC : Hid (CIs w6 b 0 l) := HC.out.next q5
            replace KW : Hid (KIs w6 gw 0 S) := KW.out.next q5
            replace CT : Hid (CIs w6 bt 0 S) := CT.out.next q5
            clear q5
            go_wp2_with fail
            refine (cturn_any bt 0 S SO.out _ CT.out).mono ?_
            rintro e w7 ⟨q7, ⟨lv, _⟩ | ⟨_, bb, rfl, _, hb⟩⟩
            · exact absurd lv (by rw [← HS.out]; exact sw_level HG.out)
            · rw [← HS.out, sw_sw] at hb
              have CB : Hid (CIs w7 bb 0 l) := hb
              clear hb
              replace q1 := q1.trans q7
              replace HC : Hid (CIs w7 b 0 l) := HC.out.next q7
              replace KW : Hid (KIs w7 gw 0 S) := KW.out.next q7
              replace CT : Hid (CIs w7 bt 0 S) := CT.out.next q7
              clear q7
              go_wp2_with fail
              refine (knots_any bb 0 l (by omega) (by omega) _ CB.out).mono ?_
              rintro e w8 ⟨g8, c8, rfl, k81, k82, k83, k84, q8⟩
              have K8 : Hid (KIs w8 g8 0 l) := k83
              clear k83 k84
              go_wp2_with fail
              refine (same_any _ _ l (by omega) _ (Or.inl ⟨g8, 0, c8, rfl, k81, K8.out⟩) (Or.inl ⟨gl, ol, cap, rfl, HKl.out.2, HKl.out.1.next (q1.trans q8)⟩)).mono ?_
              rintro e w9 ⟨rfl, q9⟩
              replace q8 := q8.trans q9
              clear q9 K8
              replace q1 := q1.trans q8
              replace HC : Hid (CIs w9 b 0 l) := HC.out.next q8
              replace KW : Hid (KIs w9 gw 0 S) := KW.out.next q8
              replace CT : Hid (CIs w9 bt 0 S) := CT.out.next q8
              have KL : Hid (KIs w9 gl ol l) := HKl.out.1.next q1
              have HXr : Hid (USl w9 (.slice a' xs.length cap') xs) := HX.out.next q1
              have BK : Hid (∀ i, i < l.length → atV S (ky l i) = kx l i) := fun i hi => by rw [← HS.out]; exact back_knot HG.out NL.out hi
              have TU : Hid (∀ (x : Nat) (W : World), x < 4294967296 → Q w9 W → Calls Try.prog 21 #[.slice (some ⟨gl, ol, none⟩) l.length cap, .pointer (some ⟨bt, 0, none⟩), .pointer (some ⟨b, 0, none⟩), .int .u32 (x : Int)] W fun e w' => e = .returned (.bool true) ∧ Q W w') := fun x W hx hW => turned_any gl ol cap bt b l HG.out NL.out x hx W (KL.out.next hW) (by rw [HS.out]; exact CT.out.next hW) (HC.out.next hW)
              clear q8 CB HX
              go_wp2_with fail
              go_loopg [14] l.length (fun m s14 wr => ∃ k : Nat, s14 = .int .i64 k ∧ k + m = l.length ∧ Q w9 wr)
              case atStart => exact ⟨0, rfl, by omega, Q.refl _⟩
              case round =>
                obtain ⟨k, rfl, hm, hqx⟩ := hrel
                by_cases hkn : k < l.length
                · obtain ⟨x1, x2⟩ := KL.out k hkn
                  replace x1 := hqx.cell x1
                  replace x2 := hqx.cell x2
                  have hyl := (HG.out.lt k).2
                  have hxl := (HG.out.lt k).1
                  have bk := BK.out k hkn
                  have fx := fin_nan (HG.out.fin k hkn).1
                  have i0 : (0 : Int) ≤ (k : Int) := by omega
                  have i1 : (k : Int) < (l.length : Int) := by omega
                  generalize kx l k = X at *
                  generalize ky l k = Y at *
                  have HA : Hid (∀ n : QW wr, Calls Try.prog 13 #[.pointer (some ⟨bt, 0, none⟩), .int .u32 (Y : Int)] n.x fun e w' => e = .returned (.int .u32 (X : Nat)) ∧ Q n.x w') := fun n => by
                    rw [← bk]
                    exact at_any bt 0 S SO.out Y hyl n.x (CT.out.next (hqx.trans n.q))
                  have HE : Hid (∀ W : World, Calls Try.prog 20 #[.int .u32 (X : Int), .int .u32 (X : Int)] W fun e w' => e = .returned (.bool true) ∧ w' = W) := fun W => by
                    rw [← equalB_self fx]
                    exact rsame_any X X hxl hxl W
                  clear bk
                  have n0 := qw_some wr
                  have d1 := qw_cell x1
                  have d2 := qw_cell x2
                  go_wp2_with fail
                  refine wp_region_quiet_Q (by kernel_rfl) (by kernel_rfl) ?_
                  repeat (first | go_big_quiet_step (first | (go_at_call 13; exact calls_qw (HA.out _)) | (go_at_call 20; exact calls_qs (HE.out _))) | quiet_step (first | (go_at_call 13; exact calls_qw (HA.out _)) | (go_at_call 20; exact calls_qs (HE.out _))))
                  refine wpQuiet_nil ?_
                  intro w10 hw'
                  have hq10 := qw_out hw'
                  clear hw' d1 d2 n0 x1 x2 HA HE
                  go_wp2_with fail
                  go_roundg (l.length - (k + 1))
                  case measure => go_light; omega
                  case rel => go_light; exact ⟨k + 1, by go_num, by omega, hqx.trans hq10⟩
                · go_wp2_with fail
                  go_loopg [15] xs.length (fun m s15 wx => ∃ j : Nat, s15 = .int .i64 j ∧ j + m = xs.length ∧ Q w9 wx)
                  case atStart => exact ⟨0, rfl, by omega, hqx⟩
                  case round =>
                    obtain ⟨j, rfl, hmj, hqj⟩ := hrel
                    by_cases hjn : j < xs.length
                    · obtain ⟨gx, ox, hae⟩ : ∃ gx ox, a' = some ⟨gx, ox, none⟩ := by
                        rcases HXr.out with ⟨g, o, c, e, _⟩ | ⟨_, _, _, e⟩
                        · injection e with e; exact ⟨g, o, e⟩
                        · exfalso; rw [e] at hjn; exact Nat.not_lt_zero _ hjn
                      subst hae
                      have cx : wr.cell? ⟨gx, ox + j, none⟩ = some (.int .u32 (xs.getD j 0 : Nat)) := by
                        rcases HXr.out with ⟨g, o, c, e, _, h⟩ | ⟨_, _, _, e⟩
                        · injection e with e; injection e with e; injection e with e1 e2; subst e1; subst e2; exact hqj.cell (h j hjn)
                        · exfalso; rw [e] at hjn; exact Nat.not_lt_zero _ hjn
                      have hi0 : (0 : Int) ≤ (j : Int) := by omega
                      have hi1 : (j : Int) < (xs.length : Int) := by omega
                      have hxk := HU.out j
                      obtain ⟨X, hX⟩ : ∃ X, xs.getD j 0 = X := ⟨_, rfl⟩
                      rw [hX] at cx hxk
                      clear hX
                      have A1 : ∀ n : QW wr, Calls Try.prog 13 #[.pointer (some ⟨bt, 0, none⟩), .int .u32 (X : Int)] n.x fun e w' => e = .returned (.int .u32 (atV S X : Nat)) ∧ Q n.x w' := fun n => at_any bt 0 S SO.out X hxk _ (CT.out.next (hqj.trans n.q))
                      have A2 : ∀ n : QW wr, Calls Try.prog 14 #[.slice (some ⟨gw, 0, none⟩) S.length cw, .int .u32 (X : Int)] n.x fun e w' => e = .returned (.int .u32 (atV S X : Nat)) ∧ Q n.x w' := fun n => rat_any gw 0 cw S SO.out X hxk _ (KW.out.next (hqj.trans n.q))
                      generalize atV S X = Z at A1 A2
                      have HW1 : Hid (∀ n : QW wr, Calls Try.prog 13 #[.pointer (some ⟨bt, 0, none⟩), .int .u32 (X : Int)] n.x fun e w' => e = .returned (.int .u32 (Z : Nat)) ∧ Q n.x w') := A1
                      have HW2 : Hid (∀ n : QW wr, Calls Try.prog 14 #[.slice (some ⟨gw, 0, none⟩) S.length cw, .int .u32 (X : Int)] n.x fun e w' => e = .returned (.int .u32 (Z : Nat)) ∧ Q n.x w') := A2
                      have HW3 : Hid (∀ n : QW wr, Calls Try.prog 21 #[.slice (some ⟨gl, ol, none⟩) l.length cap, .pointer (some ⟨bt, 0, none⟩), .pointer (some ⟨b, 0, none⟩), .int .u32 (X : Int)] n.x fun e w' => e = .returned (.bool true) ∧ Q n.x w') := fun n => TU.out X n.x hxk (hqj.trans n.q)
                      clear A1 A2
                      have n0 := qw_some wr
                      have d1 := qw_cell cx
                      have hb : ((Z : Int) != (Z : Int)) = false := by simp
                      go_wp2_with fail
                      refine wp_region_quiet_Q (by kernel_rfl) (by kernel_rfl) ?_
                      repeat (first | go_big_quiet_step (first | (go_at_call 13; exact calls_qw (HW1.out _)) | (go_at_call 14; exact calls_qw (HW2.out _)) | (go_at_call 21; exact calls_qw (HW3.out _))) | quiet_step (first | (go_at_call 13; exact calls_qw (HW1.out _)) | (go_at_call 14; exact calls_qw (HW2.out _)) | (go_at_call 21; exact calls_qw (HW3.out _))))
                      refine wpQuiet_nil ?_
                      intro w11 hw'
                      have hq11 := qw_out hw'
                      clear hw' d1 n0 cx HW1 HW2 HW3
                      go_wp2_with fail
                      go_roundg (xs.length - (j + 1))
                      case measure => go_light; omega
                      case rel => go_light; exact ⟨j + 1, by go_num, by omega, hqj.trans hq11⟩
                    · go_wp2_with fail
                      go_ret
                      exact ⟨rfl, q1.trans hqj⟩
      · go_wp2_with fail
        go_ret
        exact ⟨rfl, q1.trans q2⟩
end Go.Proofs.Ytmfniimelibhfaa
/- Curves one behind the other: At. -/
namespace Go.Proofs.Ytmfniimelibhfaa
open Go.RowKit
set_option linter.unusedVariables false
set_option linter.unusedSimpArgs false

/-- A chain in memory. -/
structure ChIs (w : World) (b : Nat) (ll : List (List (Nat × Nat))) : Prop where
  it : ∃ g cap, w.cell? ⟨b, 0, none⟩ = some (.slice (some ⟨g, 0, none⟩) ll.length cap) ∧ ll.length ≤ cap ∧ LLs w g 0 ll
theorem ChIs.next {w w' : World} {b : Nat} {ll : List (List (Nat × Nat))} (h : ChIs w b ll) (q : Q w w') : ChIs w' b ll := by
  obtain ⟨g, cap, h1, h2, h3⟩ := h.it
  exact ⟨g, cap, q.cell h1, h2, h3.next q⟩
theorem LLs.curve {w : World} {g o : Nat} {ll : List (List (Nat × Nat))} (h : LLs w g o ll) {i : Nat} (hi : i < ll.length) : CIs w g (o + i) (ll.getD i []) := by
  obtain ⟨g', o', cap, h1, h2, h3⟩ := h i hi
  exact ⟨g', o', cap, h1, h2, h3⟩

set_option maxHeartbeats 4000000 in
theorem chat_any (b : Nat) (ll : List (List (Nat × Nat))) (hll : ∀ l ∈ ll, COk l) (hlen : ll.length ≤ 64) (x : Nat) (hx : x < 4294967296) (w : World) (hc : ChIs w b ll) :
    Calls Try.prog 26 #[.pointer (some ⟨b, 0, none⟩), .int .u32 x] w fun e w' => e = .returned (.int .u32 (chainV ll x : Nat)) ∧ Q w w' := by
  obtain ⟨g, cap, c1, c2, c3⟩ := hc.it
  have HK : Hid (LLs w g 0 ll) := c3
  have HL : Hid (∀ l ∈ ll, COk l) := hll
  obtain ⟨N, hN⟩ : ∃ N, ll.length = N := ⟨_, rfl⟩
  rw [hN] at c1 c2 hlen
  clear hc c3 hll
  go_enter Try.func26, Try.ntmps26
  go_wp2_with fail
  go_loopg [1, 11] N (fun m s1 s11 wr => ∃ k X : Nat, s1 = .int .u32 X ∧ s11 = .int .i64 k ∧ k + m = N ∧ X < 4294967296 ∧ Hid (X = chainV (ll.take k) x) ∧ Q w wr)
  case atStart => exact ⟨0, x, rfl, rfl, by omega, hx, (rfl : x = chainV (ll.take 0) x), Q.refl _⟩
  case round =>
    obtain ⟨k, X, rfl, rfl, hm, hX, HX, hq⟩ := hrel
    by_cases hkn : k < N
    · have hkl : k < ll.length := by omega
      have K3 : Hid (CIs wr g k (ll.getD k [])) := by
        have := (HK.out.next hq).curve hkl
        rw [Nat.zero_add] at this
        exact this
      have ok : Hid (COk (ll.getD k [])) := HL.out _ (getD_mem hkl)
      have N1 : Hid (atV (ll.getD k []) X = chainV (ll.take (k + 1)) x) := by
        show atV (ll.getD k []) X = chainV (ll.take (k + 1)) x
        rw [chain_take hkl, ← HX.out]
      have N2 := atV_lt ok.out hX
      obtain ⟨lk, hlk⟩ : ∃ lk, ll.getD k [] = lk := ⟨_, rfl⟩
      rw [hlk] at K3 ok N1 N2
      clear hlk hkl
      have cc := hq.cell c1
      have hi0 : (0 : Int) ≤ (k : Int) := by omega
      have hi1 : (k : Int) < (N : Int) := by omega
      go_wp2_with fail
      refine (at_any g k lk ok.out X hX _ K3.out).mono ?_
      rintro e w1 ⟨rfl, q1⟩
      go_wp2_with fail
      go_roundg (N - (k + 1))
      case measure => go_light; omega
      case rel => go_light; exact ⟨k + 1, _, rfl, by go_num, by omega, N2, N1, hq.trans q1⟩
    · have e1 : chainV ll x = X := by
        rw [HX.out, List.take_of_length_le (by omega)]
      have E1 : Hid (X = chainV ll x) := e1.symm
      clear e1 HX
      go_wp2_with fail
      go_ret
      exact ⟨ret_int (by rw [← E1.out]), hq⟩
end Go.Proofs.Ytmfniimelibhfaa
/- Curves one behind the other: Join. -/
namespace Go.Proofs.Ytmfniimelibhfaa
open Go.RowKit
set_option linter.unusedVariables false
set_option linter.unusedSimpArgs false

/-- Curves handed in, each by its pointer. -/
def PLs (w : World) (g o : Nat) (ll : List (List (Nat × Nat))) : Prop := ∀ i, i < ll.length → ∃ b, w.cell? ⟨g, o + i, none⟩ = some (.pointer (some ⟨b, 0, none⟩)) ∧ CIs w b 0 (ll.getD i [])
theorem PLs.next {w w' : World} {g o : Nat} {ll : List (List (Nat × Nat))} (h : PLs w g o ll) (q : Q w w') : PLs w' g o ll := fun i hi => by
  obtain ⟨b, h1, h2⟩ := h i hi
  exact ⟨b, q.cell h1, h2.next q⟩
theorem curveInfo : ∃ i, Try.prog.info? 72 = some i ∧ i.size = 1 ∧ i.bytes = 24 ∧ i.zero = some (.agg #[.slice none 0 0]) :=
  info_of (by kernel_rfl) (by kernel_rfl)
/-- How far Join has come. -/
structure Joins (ll : List (List (Nat × Nat))) (w wr : World) (g k : Nat) : Prop where
  q : Q w wr
  new : w.heap.size ≤ g
  done : ∀ i, i < k → ∃ g' o' cap, wr.cell? ⟨g, i, none⟩ = some (.slice (some ⟨g', o', none⟩) (ll.getD i []).length cap) ∧ (ll.getD i []).length ≤ cap ∧ KIs w g' o' (ll.getD i [])
  room : ∀ j, j < ll.length → ∃ v, wr.cell? ⟨g, j, none⟩ = some v
  free : ∀ j, wr.frozen? ⟨g, j, none⟩ = false
theorem Joins.next {ll : List (List (Nat × Nat))} {w wr wx : World} {g k : Nat} (h : Joins ll w wr g k) (q : Q wr wx) : Joins ll w wx g k where
  q := h.q.trans q
  new := h.new
  done := fun i hi => by obtain ⟨g', o', cap, h1, h2⟩ := h.done i hi; exact ⟨g', o', cap, q.cell h1, h2⟩
  room := fun j hj => by obtain ⟨v, hv⟩ := h.room j hj; exact ⟨v, q.cell hv⟩
  free := fun j => by rw [q.2]; exact h.free j
theorem Joins.step {ll : List (List (Nat × Nat))} {w wr : World} {g k : Nat} (h : Joins ll w wr g k) (hk : k < ll.length) {g' o' cap : Nat} (h2 : (ll.getD k []).length ≤ cap) (h4 : KIs w g' o' (ll.getD k [])) :
    Joins ll w (wr.setCell ⟨g, k, none⟩ (.slice (some ⟨g', o', none⟩) (ll.getD k []).length cap)) g (k + 1) := by
  obtain ⟨u, hu⟩ := h.room k hk
  refine ⟨h.q.set h.new _, h.new, fun i hi => ?_, fun j hj => ?_, fun j => ?_⟩
  · by_cases e : i = k
    · subst e
      exact ⟨g', o', cap, World.cell?_setCell_same _ _ _ hu, h2, h4⟩
    · rw [World.cell?_setCell_other _ _ _ _ (by simp <;> omega)]
      exact h.done i (by omega)
  · by_cases e : j = k
    · subst e; exact ⟨_, World.cell?_setCell_same _ _ _ hu⟩
    · rw [World.cell?_setCell_other _ _ _ _ (by simp <;> omega)]; exact h.room j hj
  · rw [World.frozen?_setCell]; exact h.free j

set_option maxHeartbeats 4000000 in
set_option maxRecDepth 100000 in
theorem join_any (g o cap : Nat) (ll : List (List (Nat × Nat))) (h1 : 1 ≤ ll.length) (h8 : ll.length ≤ 8) (w : World) (hk : PLs w g o ll) :
    Calls Try.prog 24 #[.slice (some ⟨g, o, none⟩) ll.length cap] w fun e w' => Q w w' ∧ ∃ b, e = .returned (.tuple #[.pointer (some ⟨b, 0, none⟩), .int .i64 0]) ∧ ChIs w' b ll := by
  have HK : Hid (PLs w g o ll) := hk
  obtain ⟨i, i1, i2, i3, i4⟩ := curveInfo
  obtain ⟨N, hN⟩ : ∃ N, ll.length = N := ⟨_, rfl⟩
  obtain ⟨M, hM⟩ : ∃ M, M = madeCells (Value.agg #[.slice none 0 0]).cells (N * 1) := ⟨_, rfl⟩
  have hms : M.size = N := by rw [hM]; simpa using size_madeCells _ (N * 1)
  rw [hN] at h1 h8 ⊢
  have hmk : ∀ w : World, (Instr.makeSlice 81 (.int .i64 (N : Int)) (.int .i64 (N : Int))).run Try.prog w = .ok (.slice (some ⟨w.heap.size, 0, none⟩) N N) (w.alloc (.cells M 72)) := fun w => by
    have := run_make (P := Try.prog) w 81 72 i _ Try.underlying81 i1 i4 .i64 .i64 N N (by omega) (by omega) (by rw [i3]; omega) (by omega)
    rw [i2] at this
    simp only [Int.toNat_natCast] at this
    rw [hM]
    exact this
  have j1 : ¬ (N : Int) < 1 := by omega
  have j2 : ¬ (8 : Int) < (N : Int) := by omega
  have j3 : decide ((N : Int) < 1) = false := decide_eq_false j1
  have j4 : decide ((8 : Int) < (N : Int)) = false := decide_eq_false j2
  clear hk i1 i2 i3 i4 hM
  go_enter Try.func24, Try.ntmps24
  go_wp2_with fail
  have hb : (w.alloc (.cells M 72)).heap[w.heap.size]? = some (.cells M 72 (0, 0)) := heap_alloc_new w _
  have J0 : Hid (Joins ll w ((w.alloc (.cells M 72)).alloc (.cells #[.slice (some ⟨w.heap.size, 0, none⟩) N N] 83)) w.heap.size 0) := by
    refine ⟨((Q.refl w).cells _ _).cells _ _, Nat.le_refl _, fun i hi => absurd hi (Nat.not_lt_zero _), fun j hj => ?_, fun j => ?_⟩
    · have : (w.alloc (.cells M 72)).cell? ⟨w.heap.size, j, none⟩ = some (M[j]'(by omega)) := by
        rw [cell_of_row _ _ j M 72 (0, 0) hb]
        exact Array.getElem?_eq_getElem (by omega)
      exact ⟨_, cell_1 this _ _⟩
    · rw [((Q.refl _).cells _ _).2]
      exact frozen_of_row _ _ _ _ _ hb
  have C0 : ((w.alloc (.cells M 72)).alloc (.cells #[.slice (some ⟨w.heap.size, 0, none⟩) N N] 83)).cell? ⟨w.heap.size + 1, 0, none⟩ = some (.slice (some ⟨w.heap.size, 0, none⟩) N N) := by simp [go_sem]
  clear hb hmk hms
  generalize World.alloc (w.alloc _) _ = w0 at J0 C0 ⊢
  go_loopg [22] N (fun m s22 wr => ∃ k : Nat, s22 = .int .i64 k ∧ k + m = N ∧ Hid (Joins ll w wr w.heap.size k) ∧ wr.cell? ⟨w.heap.size + 1, 0, none⟩ = some (.slice (some ⟨w.heap.size, 0, none⟩) N N))
  case atStart => exact ⟨0, rfl, by omega, J0, C0⟩
  case round =>
    obtain ⟨k, rfl, hm, JK, CK⟩ := hrel
    by_cases hkn : k < N
    · have hkl : k < ll.length := by omega
      obtain ⟨bk, p1, p2⟩ := HK.out k hkl
      obtain ⟨g', o', c', p3, p4, p5⟩ := p2.it
      obtain ⟨u, hu⟩ := JK.out.room k hkl
      have z1 := JK.out.free k
      have J1 : Hid (Joins ll w (wr.drew.setCell ⟨w.heap.size, k, none⟩ (.slice (some ⟨g', o', none⟩) (ll.getD k []).length c')) w.heap.size (k + 1)) := (JK.out.next (Q.refl wr).drew).step hkl p4 p5
      replace p1 := JK.out.q.cell p1
      replace p3 := JK.out.q.cell p3
      obtain ⟨L, hL⟩ : ∃ L, (ll.getD k []).length = L := ⟨_, rfl⟩
      rw [hL] at p3 p4 J1
      have hi0 : (0 : Int) ≤ (k : Int) := by omega
      have hi1 : (k : Int) < (N : Int) := by omega
      have CK' : (wr.drew.setCell ⟨w.heap.size, k, none⟩ (.slice (some ⟨g', o', none⟩) L c')).cell? ⟨w.heap.size + 1, 0, none⟩ = some (.slice (some ⟨w.heap.size, 0, none⟩) N N) := by
        rw [World.cell?_setCell_other _ _ _ _ (by simp <;> omega)]
        exact (Q.refl wr).drew.cell CK
      clear hL p5 p2
      go_wp2_with fail
      go_region
      all_goals
        go_wp2_with fail
        go_roundg (N - (k + 1))
        case measure => go_light; omega
        case rel => go_light; exact ⟨k + 1, by go_num, by omega, J1, CK'⟩
    · have hk : k = N := by omega
      subst hk
      go_wp2_with fail
      refine bodyPost_ret (v := .tuple #[.pointer (some ⟨w.heap.size + 1, 0, none⟩), .int .i64 0]) (by simp [results, Try.results24, go_sem]) rfl ⟨JK.out.q, _, rfl, ?_⟩
      refine ⟨w.heap.size, k, by rw [hN]; exact CK, by rw [hN]; exact Nat.le_refl _, fun i hi => ?_⟩
      obtain ⟨g', o', c', a1, a2, a3⟩ := JK.out.done i (by omega)
      exact ⟨g', o', c', by rw [Nat.zero_add]; exact a1, a2, a3.next JK.out.q⟩
end Go.Proofs.Ytmfniimelibhfaa
