/- The first statement about curves: its walk. -/
import Derived.Test.YtmfniimelibhfaaG88785cbc
namespace Go.Proofs.Ytmfniimelibhfaa
open Go.RowKit
set_option linter.unusedVariables false

/-- A list of samples, or none. -/
def USl (w : World) (v : Value) (xs : List Nat) : Prop := (∃ g o cap, v = .slice (some ⟨g, o, none⟩) xs.length cap ∧ xs.length ≤ cap ∧ ∀ i, i < xs.length → w.cell? ⟨g, o + i, none⟩ = some (.int .u32 (xs.getD i 0 : Nat))) ∨ (∃ a c, v = .slice a 0 c ∧ xs = [])
theorem USl.next {w w' : World} {v : Value} {l : List Nat} (h : USl w v l) (q : Q w w') : USl w' v l := by
  rcases h with ⟨g, o, cap, h1, h2, h3⟩ | h
  · exact Or.inl ⟨g, o, cap, h1, h2, fun i hi => q.cell (h3 i hi)⟩
  · exact Or.inr h
theorem KSl.form {w : World} {v : Value} {l : List (Nat × Nat)} (h : KSl w v l) : ∃ a cap, v = .slice a l.length cap := by
  rcases h with ⟨g, o, cap, h1, _⟩ | ⟨_, _, h1, h2⟩
  · exact ⟨_, _, h1⟩
  · subst h2; exact ⟨_, _, h1⟩
theorem USl.form {w : World} {v : Value} {l : List Nat} (h : USl w v l) : ∃ a cap, v = .slice a l.length cap := by
  rcases h with ⟨g, o, cap, h1, _⟩ | ⟨_, _, h1, h2⟩
  · exact ⟨_, _, h1⟩
  · subst h2; exact ⟨_, _, h1⟩

set_option maxHeartbeats 4000000 in
set_option maxRecDepth 100000 in
theorem ats_walk (sv xv : Value) (l : List (Nat × Nat)) (xs : List Nat) (hlt : ∀ i, kx l i < 4294967296 ∧ ky l i < 4294967296) (hxt : ∀ i, xs.getD i 0 < 4294967296) (bl : l.length ≤ 9223372036854775807) (bx : xs.length ≤ 9223372036854775807) (w : World) (hk : KSl w sv l) (hx : USl w xv xs) :
    Calls Try.prog 3 #[sv, xv] w fun e w' => e = .returned (.bool true) ∧ Q w w' := by
  obtain ⟨a, cap, ev⟩ := hk.form
  obtain ⟨a', cap', ex⟩ := hx.form
  have HK : Hid (KSl w sv l) := hk
  have HX : Hid (USl w xv xs) := hx
  have HT : Hid (∀ i, kx l i < 4294967296 ∧ ky l i < 4294967296) := hlt
  have HU : Hid (∀ i, xs.getD i 0 < 4294967296) := hxt
  rw [ev, ex]
  rw [ev] at HK
  rw [ex] at HX
  clear hk hx ev ex hlt hxt
  go_enter Try.func3, Try.ntmps3
  go_wp2_with fail
  refine (known_any _).mono ?_
  rintro e w1 ⟨rfl, q1⟩
  by_cases h1 : 200 < l.length
  · have g1 : (200 : Int) < (l.length : Int) := by omega
    go_wp2_with fail
    go_ret
    exact ⟨rfl, q1⟩
  · have g1 : ¬ (200 : Int) < (l.length : Int) := by omega
    have g2 : decide ((200 : Int) < (l.length : Int)) = false := decide_eq_false g1
    by_cases h2 : 500 < xs.length
    · have g3 : (500 : Int) < (xs.length : Int) := by omega
      go_wp2_with fail
      go_ret
      exact ⟨rfl, q1⟩
    · have g3 : ¬ (500 : Int) < (xs.length : Int) := by omega
      have g4 : decide ((500 : Int) < (xs.length : Int)) = false := decide_eq_false g3
      go_wp2_with fail
      refine (makes_any _ l (by omega) HT.out _ (HK.out.next q1)).mono ?_
      rintro e w2 ⟨q2, ⟨b, rfl, hc, hg⟩ | ⟨rfl, hg⟩⟩
      · have HC : Hid (CIs w2 b 0 l) := hc
        have HG : Hid (COk l) := good_ok hg HT.out
        have l2 : 2 ≤ l.length := hg.1
        have l64 : l.length ≤ 64 := hg.2.1
        replace q1 := q1.trans q2
        clear hc hg q2
        go_wp2_with fail
        refine (knots_any b 0 l (by omega) l64 _ HC.out).mono ?_
        rintro e w3 ⟨g, c3, rfl, k1, k2, k3, k4, q3⟩
        have K3 : Hid (KIs w3 g 0 l) := k3
        have L3 : Hid (Lent w3 w3 g (l.length * 2)) := ⟨fun j hj => ⟨_, (by have := k3.flat_cells j _ (flat_get hj); have hadd : (⟨g, 0, none⟩ : Addr).add j = ⟨g, j, none⟩ := (by unfold Addr.add; split <;> simp_all); rw [hadd] at this; exact this)⟩, k4, fun _ _ => rfl⟩
        clear k3 k4
        go_wp2_with fail
        refine (same_any _ _ l (by omega) _ (Or.inl ⟨g, 0, c3, rfl, k1, K3.out⟩) (HK.out.next (q1.trans q3))).mono ?_
        rintro e w4 ⟨rfl, q4⟩
        have L4 : Hid (Lent w4 w4 g (l.length * 2)) := ⟨fun j hj => by obtain ⟨v, hv⟩ := L3.out.cells j hj; exact ⟨v, q4.cell hv⟩, fun j => by rw [q4.2]; exact L3.out.free j, fun _ _ => rfl⟩
        replace q3 := q3.trans q4
        clear q4 K3 L3
        go_wp2_with fail
        go_loopg [9] l.length (fun m s9 wr => ∃ k : Nat, s9 = .int .i64 k ∧ k + m = l.length ∧ Q w2 wr ∧ Hid (Lent w4 wr g (l.length * 2)))
        case atStart => exact ⟨0, rfl, by omega, q3, L4⟩
        case round =>
          obtain ⟨k, rfl, hm, hq', LR⟩ := hrel
          by_cases hkn : k < l.length
          · obtain ⟨u, hu⟩ := LR.out.cells (k * 2) (by omega)
            obtain ⟨v, hv⟩ := LR.out.cells (k * 2 + 1) (by omega)
            have z1 := LR.out.free (k * 2)
            have z2 := LR.out.free (k * 2 + 1)
            have hi0 : (0 : Int) ≤ (k : Int) := by omega
            have hi1 : (k : Int) < (l.length : Int) := by omega
            have N1 : Hid (Lent w4 ((wr.setCell ⟨g, k * 2, none⟩ (.int .u32 5)).setCell ⟨g, k * 2 + 1, none⟩ (.int .u32 5)) g (l.length * 2)) := (LR.out.set (by omega) _).set (by omega) _
            go_wp2_with fail
            go_roundg (l.length - (k + 1))
            case measure => go_light; omega
            case rel => go_light; exact ⟨k + 1, by go_num, by omega, (hq'.set k2 _).set k2 _, N1⟩
          · go_wp2_with fail
            clear LR hkn hm
            obtain ⟨wo, rfl⟩ : ∃ wo, wo = wr := ⟨_, rfl⟩
            have HKr : Hid (KSl wo (.slice a l.length cap) l) := HK.out.next (q1.trans hq')
            have HXr : Hid (USl wo (.slice a' xs.length cap') xs) := HX.out.next (q1.trans hq')
            have HCr : Hid (CIs wo b 0 l) := HC.out.next hq'
            replace q1 := q1.trans hq'
            clear hq' q3 L4 HK HX HC
            obtain ⟨gl, ol, hae⟩ : ∃ gl ol, a = some ⟨gl, ol, none⟩ := by
              rcases HKr.out with ⟨g, o, c, e, _⟩ | ⟨_, _, _, e⟩
              · injection e with e; exact ⟨g, o, e⟩
              · exfalso; rw [e] at l2; exact absurd l2 (by decide)
            subst hae
            have HKl : Hid (KIs wo gl ol l) := by
              rcases HKr.out with ⟨g, o, c, e, _, h⟩ | ⟨_, _, _, e⟩
              · injection e with e; injection e with e; injection e with e1 e2; subst e1; subst e2; exact h
              · exfalso; rw [e] at l2; exact absurd l2 (by decide)
            go_loopg [10] xs.length (fun m s10 wx => ∃ k : Nat, s10 = .int .i64 k ∧ k + m = xs.length ∧ Q wo wx)
            case atStart => exact ⟨0, rfl, by omega, Q.refl _⟩
            case round =>
              obtain ⟨k, rfl, hm, hqx⟩ := hrel
              by_cases hkn : k < xs.length
              · obtain ⟨gx, ox, hae⟩ : ∃ gx ox, a' = some ⟨gx, ox, none⟩ := by
                  rcases HXr.out with ⟨g, o, c, e, _⟩ | ⟨_, _, _, e⟩
                  · injection e with e; exact ⟨g, o, e⟩
                  · exfalso; rw [e] at hkn; exact Nat.not_lt_zero _ hkn
                subst hae
                have cx : wr.cell? ⟨gx, ox + k, none⟩ = some (.int .u32 (xs.getD k 0 : Nat)) := by
                  rcases HXr.out with ⟨g, o, c, e, _, h⟩ | ⟨_, _, _, e⟩
                  · injection e with e; injection e with e; injection e with e1 e2; subst e1; subst e2; exact hqx.cell (h k hkn)
                  · exfalso; rw [e] at hkn; exact Nat.not_lt_zero _ hkn
                have hi0 : (0 : Int) ≤ (k : Int) := by omega
                have hi1 : (k : Int) < (xs.length : Int) := by omega
                have hxk := HU.out k
                obtain ⟨X, hX⟩ : ∃ X, xs.getD k 0 = X := ⟨_, rfl⟩
                rw [hX] at cx hxk
                clear hX
                have HW1 : Hid (∀ n : QW wr, Calls Try.prog 13 #[.pointer (some ⟨b, 0, none⟩), .int .u32 (X : Int)] n.x fun e w' => e = .returned (.int .u32 (atV l X : Nat)) ∧ Q n.x w') := fun n => at_any b 0 l HG.out X hxk _ (HCr.out.next (hqx.trans n.q))
                have HW2 : Hid (∀ n : QW wr, Calls Try.prog 14 #[.slice (some ⟨gl, ol, none⟩) l.length cap, .int .u32 (X : Int)] n.x fun e w' => e = .returned (.int .u32 (atV l X : Nat)) ∧ Q n.x w') := fun n => rat_any gl ol cap l HG.out X hxk _ (HKl.out.next (hqx.trans n.q))
                have n0 := qw_some wr
                have d1 := qw_cell cx
                have hb : ((atV l X : Int) != (atV l X : Int)) = false := by simp
                go_wp2_with fail
                refine wp_region_quiet_Q (by kernel_rfl) (by kernel_rfl) ?_
                repeat (first | go_big_quiet_step (first | (go_at_call 13; exact calls_qw (HW1.out _)) | (go_at_call 14; exact calls_qw (HW2.out _))) | quiet_step (first | (go_at_call 13; exact calls_qw (HW1.out _)) | (go_at_call 14; exact calls_qw (HW2.out _))))
                refine wpQuiet_nil ?_
                intro w5 hw'
                have hq5 := qw_out hw'
                clear hw' d1 n0 cx
                go_wp2_with fail
                go_roundg (xs.length - (k + 1))
                case measure => go_light; omega
                case rel => go_light; exact ⟨k + 1, by go_num, by omega, hqx.trans hq5⟩
              · go_wp2_with fail
                refine (knots_any b 0 l (by omega) l64 _ (HCr.out.next hqx)).mono ?_
                rintro e w6 ⟨g6, c6, rfl, k1', k2', k3', k4', q6⟩
                have K6 : Hid (KIs w6 g6 0 l) := k3'
                clear k3' k4'
                go_wp2_with fail
                refine (same_any _ _ l (by omega) _ (Or.inl ⟨g6, 0, c6, rfl, k1', K6.out⟩) (HKr.out.next (hqx.trans q6))).mono ?_
                rintro e w7 ⟨rfl, q7⟩
                go_wp2_with fail
                go_ret
                exact ⟨rfl, ((q1.trans hqx).trans q6).trans q7⟩
      · go_wp2_with fail
        go_ret
        exact ⟨rfl, q1.trans q2⟩
end Go.Proofs.Ytmfniimelibhfaa
