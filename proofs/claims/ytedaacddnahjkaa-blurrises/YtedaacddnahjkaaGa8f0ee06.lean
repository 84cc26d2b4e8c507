/- The document's Size, Check and Border. -/
import Derived.Test.YtedaacddnahjkaaG32f5711b
namespace Go.Proofs.Ytedaacddnahjkaa
open Go.RowKit
set_option linter.unusedVariables false
set_option linter.unusedSimpArgs false

set_option maxRecDepth 100000 in
theorem rsize_any (W H : Int) (w : World) : Calls Try.prog 57 #[.int .i64 W, .int .i64 H] w fun e w' => e = .returned (.bool (sizeB W H)) ∧ w' = w := by
  by_cases h1 : 1 ≤ W
  · by_cases h2 : W ≤ 1024
    · by_cases h3 : 1 ≤ H
      · by_cases h4 : H ≤ 1024
        · obtain ⟨a1, a2⟩ := area_le ⟨h1, h2⟩ ⟨h3, h4⟩
          have hw : IntKind.i64.wrap (W * H) = W * H := by rw [IntKind.wrap_i64]; omega
          by_cases h5 : W * H ≤ 65536
          · have e : sizeB W H = true := sizeB_true.2 ⟨h1, h2, h3, h4, h5⟩
            rw [e]; clear e
            generalize hA : W * H = A at a1 a2 h5
            clear hw
            go_enter Try.func57, Try.ntmps57
            go_wp2_with fail
            go_ret
            exact ⟨rfl, rfl⟩
          · have e : sizeB W H = false := sizeB_false (fun h => h5 h.2.2.2.2)
            rw [e]; clear e
            generalize hA : W * H = A at a1 a2 h5
            clear hw
            have h6 : decide (A ≤ 65536) = false := decide_eq_false h5
            go_enter Try.func57, Try.ntmps57
            go_wp2_with fail
            go_ret
            exact ⟨rfl, rfl⟩
        · have e : sizeB W H = false := sizeB_false (fun h => h4 h.2.2.2.1)
          rw [e]; clear e
          have h6 : decide (H ≤ 1024) = false := decide_eq_false h4
          go_enter Try.func57, Try.ntmps57
          go_wp2_with fail
          go_ret
          exact ⟨rfl, rfl⟩
      · have e : sizeB W H = false := sizeB_false (fun h => h3 h.2.2.1)
        rw [e]; clear e
        have h6 : decide (1 ≤ H) = false := decide_eq_false h3
        go_enter Try.func57, Try.ntmps57
        go_wp2_with fail
        go_ret
        exact ⟨rfl, rfl⟩
    · have e : sizeB W H = false := sizeB_false (fun h => h2 h.2.1)
      rw [e]; clear e
      have h6 : decide (W ≤ 1024) = false := decide_eq_false h2
      go_enter Try.func57, Try.ntmps57
      go_wp2_with fail
      go_ret
      exact ⟨rfl, rfl⟩
  · have e : sizeB W H = false := sizeB_false (fun h => h1 h.1)
    rw [e]; clear e
    have h6 : decide (1 ≤ W) = false := decide_eq_false h1
    go_enter Try.func57, Try.ntmps57
    go_wp2_with fail
    go_ret
    exact ⟨rfl, rfl⟩
set_option maxHeartbeats 1000000 in
set_option maxRecDepth 100000 in
theorem rcheck_any (W H : Int) (a : Option Addr) (n c : Nat) (hn : n ≤ 9223372036854775807) (w : World) :
    Calls Try.prog 48 #[.agg #[.int .i64 W, .int .i64 H, .slice a n c]] w fun e w' => e = .returned (.int .i64 (chk W H n)) ∧ Q w w' := by
  have q0 : ∀ c t, Q w (w.alloc (.cells c t)) := fun c t => (Q.refl w).cells c t
  have Q0 : Hid (∀ c t, Q w (w.alloc (.cells c t))) := q0
  clear q0
  cases hS : sizeB W H
  · have A : ∀ w : World, Calls Try.prog 57 #[.int .i64 W, .int .i64 H] w fun e w' => e = .returned (.bool false) ∧ w' = w := fun w => hS ▸ rsize_any W H w
    rw [chk_bad hS]
    clear hS
    go_enter Try.func48, Try.ntmps48
    go_wp2_with (go_at_call 57; refine (A _).mono ?_; rintro e w1 ⟨rfl, rfl⟩)
    go_ret
    exact ⟨rfl, Q0.out _ _⟩
  · have A : ∀ w : World, Calls Try.prog 57 #[.int .i64 W, .int .i64 H] w fun e w' => e = .returned (.bool true) ∧ w' = w := fun w => hS ▸ rsize_any W H w
    obtain ⟨h1, h2, h3, h4, h5⟩ := sizeB_true.1 hS
    have h6 := area_le ⟨h1, h2⟩ ⟨h3, h4⟩
    by_cases hc : (n : Int) = W * H
    · rw [chk_ok hS hc]
      have hw : IntKind.i64.wrap (W * H) = W * H := by rw [IntKind.wrap_i64]; omega
      have hb : ((n : Int) == W * H) = true := by rw [hc]; simp
      have hb2 : ((n : Int) != W * H) = false := by rw [hc]; simp
      clear hS hc h5 h6 h1 h2 h3 h4
      go_enter Try.func48, Try.ntmps48
      go_wp2_with (go_at_call 57; refine (A _).mono ?_; rintro e w1 ⟨rfl, rfl⟩)
      go_ret
      exact ⟨rfl, Q0.out _ _⟩
    · rw [chk_count hS hc]
      have hw : IntKind.i64.wrap (W * H) = W * H := by rw [IntKind.wrap_i64]; omega
      have hb : ((n : Int) == W * H) = false := by rw [beq_eq_false_iff_ne]; exact hc
      have hb2 : ((n : Int) != W * H) = true := by rw [bne_iff_ne]; exact hc
      clear hS hc h5 h6 h1 h2 h3 h4
      go_enter Try.func48, Try.ntmps48
      go_wp2_with (go_at_call 57; refine (A _).mono ?_; rintro e w1 ⟨rfl, rfl⟩)
      go_ret
      exact ⟨rfl, Q0.out _ _⟩
theorem tmod_twice (i n : Int) (hn : 0 < n) : Int.tmod (Int.tmod i n + n) n = i % n := by
  obtain ⟨h1, h2, h3, h4⟩ := tmod_mod i n hn
  rw [Int.tmod_eq_emod_of_nonneg (by omega), Int.add_emod_right]
  by_cases h : Int.tmod i n < 0
  · have := h2 h
    have l := Int.emod_nonneg i (show n ≠ 0 by omega)
    rw [← Int.add_emod_right, this, Int.emod_emod]
  · rw [h1 (by omega), Int.emod_emod]
set_option maxHeartbeats 2000000 in
set_option maxRecDepth 100000 in
theorem rborder_any (k n i : Int) (w : World) : Calls Try.prog 49 #[.int .i64 k, .int .i64 n, .int .i64 i] w fun e w' => e = .returned (.tuple #[.int .i64 (borA k n i), .int .i64 (borE k n)]) ∧ w' = w := by
  unfold borA borE
  by_cases hk : k = 1 ∨ k = 2 ∨ k = 3
  · rw [if_pos hk, if_pos hk]
    by_cases hs : sideB n = true
    · rw [if_pos hs, if_pos hs]
      obtain ⟨n1, n2⟩ := sideB_true.1 hs
      have hn1 : ¬ n < 1 := by omega
      have hn2 : ¬ 1024 < n := by omega
      have w1 : IntKind.i64.wrap (n - 1) = n - 1 := by rw [IntKind.wrap_i64]; omega
      clear hs
      rcases hk with rfl | rfl | rfl
      · have e : borV 1 n i = claV n i := rfl
        rw [e]
        clear e
        unfold claV
        by_cases h1 : i < 0
        · rw [if_pos h1]
          have h3 : i < n - 1 := by omega
          go_enter Try.func49, Try.ntmps49
          go_wp2_with fail
          go_ret2
          exact ⟨rfl, rfl⟩
        · rw [if_neg h1]
          by_cases h2 : i < n
          · rw [if_pos h2]
            rcases Int.lt_or_eq_of_le (show i ≤ n - 1 by omega) with h3 | h3
            · rcases Int.lt_or_eq_of_le (show 0 ≤ i by omega) with h4 | h4
              · go_enter Try.func49, Try.ntmps49
                go_wp2_with fail
                go_ret2
                exact ⟨rfl, rfl⟩
              · subst h4
                go_enter Try.func49, Try.ntmps49
                go_wp2_with fail
                go_ret2
                exact ⟨rfl, rfl⟩
            · obtain ⟨m, hm⟩ : ∃ m, n - 1 = m := ⟨_, rfl⟩
              rw [hm] at w1 h3
              subst h3
              have hm' : IntKind.i64.wrap (n - 1) = i := by rw [hm]; exact w1
              rcases Int.lt_or_eq_of_le (show 0 ≤ i by omega) with h4 | h4
              · clear hm
                go_enter Try.func49, Try.ntmps49
                go_wp2_with fail
                go_ret2
                exact ⟨rfl, rfl⟩
              · subst h4
                clear hm
                go_enter Try.func49, Try.ntmps49
                go_wp2_with fail
                go_ret2
                exact ⟨rfl, rfl⟩
          · rw [if_neg h2]
            obtain ⟨m, hm⟩ : ∃ m, n - 1 = m := ⟨_, rfl⟩
            have hm' : IntKind.i64.wrap (n - 1) = m := by rw [← hm]; exact w1
            have h3 : m < i := by omega
            rw [hm]
            rcases Int.lt_or_eq_of_le (show 0 ≤ m by omega) with h4 | h4
            · clear w1 hm
              go_enter Try.func49, Try.ntmps49
              go_wp2_with fail
              go_ret2
              exact ⟨rfl, rfl⟩
            · obtain rfl : n = 1 := by omega
              subst h4
              clear hm' w1
              go_enter Try.func49, Try.ntmps49
              go_wp2_with fail
              go_ret2
              exact ⟨rfl, rfl⟩
      · have e : borV 2 n i = mirV n i := rfl
        rw [e]
        clear e
        unfold mirV
        by_cases h1 : n = 1
        · rw [if_pos h1]
          subst h1
          go_enter Try.func49, Try.ntmps49
          go_wp2_with fail
          go_ret2
          exact ⟨rfl, rfl⟩
        · rw [if_neg h1]
          have hb : (n == 1) = false := by rw [beq_eq_false_iff_ne]; exact h1
          obtain ⟨T, hT⟩ : ∃ T, 2 * (n - 1) = T := ⟨_, rfl⟩
          have hT1 : 1 ≤ T := by omega
          have hT2 : T ≤ 4096 := by omega
          have hT0 : T ≠ 0 := by omega
          have hTb : (T == 0) = false := by rw [beq_eq_false_iff_ne]; exact hT0
          have l1 := Int.emod_nonneg i (show T ≠ 0 by omega)
          have l2 := Int.emod_lt_of_pos i (show 0 < T by omega)
          rw [hT]
          have w2 : IntKind.i64.wrap (2 * (n - 1)) = T := by rw [IntKind.wrap_i64]; omega
          have tw := tmod_twice i T (by omega)
          obtain ⟨_, _, t3, t4⟩ := tmod_mod i T (by omega)
          have w3 : IntKind.i64.wrap (Int.tmod i T) = Int.tmod i T := by rw [IntKind.wrap_i64]; omega
          have w4 : IntKind.i64.wrap (Int.tmod i T + T) = Int.tmod i T + T := by rw [IntKind.wrap_i64]; omega
          have w5 : IntKind.i64.wrap (i % T) = i % T := by rw [IntKind.wrap_i64]; omega
          generalize hm : i % T = m at tw l1 l2 w5 ⊢
          by_cases h2 : m < n
          · rw [if_pos h2]
            go_enter Try.func49, Try.ntmps49
            go_wp2_with fail
            go_ret2
            exact ⟨rfl, rfl⟩
          · rw [if_neg h2]
            have h3 : decide (m < n) = false := decide_eq_false h2
            go_enter Try.func49, Try.ntmps49
            go_wp2_with fail
            go_ret2
            exact ⟨rfl, rfl⟩
      · have e : borV 3 n i = i % n := rfl
        rw [e]
        clear e
        have hT0 : n ≠ 0 := by omega
        have hTb : (n == 0) = false := by rw [beq_eq_false_iff_ne]; exact hT0
        have l1 := Int.emod_nonneg i (show n ≠ 0 by omega)
        have l2 := Int.emod_lt_of_pos i (show 0 < n by omega)
        have tw := tmod_twice i n (by omega)
        obtain ⟨_, _, t3, t4⟩ := tmod_mod i n (by omega)
        have w3 : IntKind.i64.wrap (Int.tmod i n) = Int.tmod i n := by rw [IntKind.wrap_i64]; omega
        have w4 : IntKind.i64.wrap (Int.tmod i n + n) = Int.tmod i n + n := by rw [IntKind.wrap_i64]; omega
        have w5 : IntKind.i64.wrap (i % n) = i % n := by rw [IntKind.wrap_i64]; omega
        generalize hm : i % n = m at tw l1 l2 w5 ⊢
        go_enter Try.func49, Try.ntmps49
        go_wp2_with fail
        go_ret2
        exact ⟨rfl, rfl⟩
    · rw [if_neg hs, if_neg hs]
      have hs' : ¬ (1 ≤ n ∧ n ≤ 1024) := fun h => hs (sideB_true.2 h)
      clear hs
      have hk' : (k != 1) = false ∨ ((k != 1) = true ∧ (k != 2) = false) ∨ ((k != 1) = true ∧ (k != 2) = true ∧ (k != 3) = false) := by
        rcases hk with rfl | rfl | rfl <;> simp
      by_cases h1 : n < 1
      · rcases hk with rfl | rfl | rfl
        all_goals (go_enter Try.func49, Try.ntmps49; go_wp2_with fail; go_ret2; exact ⟨rfl, rfl⟩)
      · have h2 : 1024 < n := by omega
        rcases hk with rfl | rfl | rfl
        all_goals (go_enter Try.func49, Try.ntmps49; go_wp2_with fail; go_ret2; exact ⟨rfl, rfl⟩)
  · rw [if_neg hk, if_neg hk]
    have h1 : (k != 1) = true := by rw [bne_iff_ne]; omega
    have h2 : (k != 2) = true := by rw [bne_iff_ne]; omega
    have h3 : (k != 3) = true := by rw [bne_iff_ne]; omega
    go_enter Try.func49, Try.ntmps49
    go_wp2_with fail
    go_ret2
    exact ⟨rfl, rfl⟩
end Go.Proofs.Ytedaacddnahjkaa
