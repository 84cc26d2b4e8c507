/- Borders: the program's and the document's; the document's Size and Check. -/
import Derived.Test.YtikhmlcmmabapaaG1a232a06
import Derived.Shelf.Abstract
namespace Go.Proofs.Ytikhmlcmmabapaa
open Go.RowKit
set_option linter.unusedVariables false
set_option linter.unusedSimpArgs false

def claV (n i : Int) : Int := if i < 0 then 0 else if i < n then i else n - 1
def mirV (n i : Int) : Int := if n = 1 then 0 else if i % (2 * (n - 1)) < n then i % (2 * (n - 1)) else 2 * (n - 1) - i % (2 * (n - 1))
/-- The place within, for one beyond. -/
def borV (k n i : Int) : Int := if k = 1 then claV n i else if k = 2 then mirV n i else i % n
theorem borV_lt {k n : Int} (i : Int) (hn : 1 ≤ n) : 0 ≤ borV k n i ∧ borV k n i < n := by
  unfold borV claV mirV
  split
  · split
    · omega
    · split <;> omega
  · split
    · split
      · omega
      · have h1 := Int.emod_nonneg i (show 2 * (n - 1) ≠ 0 by omega)
        have h2 := Int.emod_lt_of_pos i (show 0 < 2 * (n - 1) by omega)
        split <;> omega
    · exact ⟨Int.emod_nonneg i (by omega), Int.emod_lt_of_pos i (by omega)⟩
theorem clamped_any (n i : Int) (hn : 1 ≤ n) (hn2 : n ≤ 1024) (w : World) : Calls Try.prog 64 #[.int .i64 n, .int .i64 i] w fun e w' => e = .returned (.int .i64 (borV 1 n i)) ∧ w' = w := by
  have e : borV 1 n i = claV n i := rfl
  rw [e]
  clear e
  unfold claV
  have hw : IntKind.i64.wrap (n - 1) = n - 1 := by rw [IntKind.wrap_i64]; omega
  by_cases h1 : i < 0
  · rw [if_pos h1]
    by_cases h2 : n = 1
    · subst h2
      go_enter Try.func64, Try.ntmps64
      go_wp2_with fail
      go_ret
      exact ⟨rfl, rfl⟩
    · have h3 : (0 : Int) < n - 1 := by omega
      go_enter Try.func64, Try.ntmps64
      go_wp2_with fail
      go_ret
      exact ⟨rfl, rfl⟩
  · rw [if_neg h1]
    by_cases h2 : i < n
    · rw [if_pos h2]
      rcases Int.lt_or_eq_of_le (show i ≤ n - 1 by omega) with h3 | h3
      · rcases Int.lt_or_eq_of_le (show 0 ≤ i by omega) with h4 | h4
        · go_enter Try.func64, Try.ntmps64
          go_wp2_with fail
          go_ret
          exact ⟨rfl, rfl⟩
        · subst h4
          go_enter Try.func64, Try.ntmps64
          go_wp2_with fail
          go_ret
          exact ⟨rfl, rfl⟩
      · obtain ⟨m, hm⟩ : ∃ m, n - 1 = m := ⟨_, rfl⟩
        rw [hm] at hw h3
        subst h3
        have hm' : IntKind.i64.wrap (n - 1) = i := by rw [hm]; exact hw
        rcases Int.lt_or_eq_of_le (show 0 ≤ i by omega) with h4 | h4
        · clear hm
          go_enter Try.func64, Try.ntmps64
          go_wp2_with fail
          go_ret
          exact ⟨rfl, rfl⟩
        · subst h4
          clear hm
          go_enter Try.func64, Try.ntmps64
          go_wp2_with fail
          go_ret
          exact ⟨rfl, rfl⟩
    · rw [if_neg h2]
      have h3 : n - 1 < i := by omega
      have h4 : 0 < i := by omega
      go_enter Try.func64, Try.ntmps64
      go_wp2_with fail
      go_ret
      exact ⟨rfl, rfl⟩
theorem wrapped_any (n i : Int) (hn : 1 ≤ n) (hn2 : n ≤ 1024) (w : World) : Calls Try.prog 66 #[.int .i64 n, .int .i64 i] w fun e w' => e = .returned (.int .i64 (borV 3 n i)) ∧ w' = w := by
  have A := modulo_any i n hn (by omega) w
  have e : borV 3 n i = i % n := rfl
  rw [e]
  clear e
  go_enter Try.func66, Try.ntmps66
  go_wp2_with (go_at_call 72; refine A.mono ?_; rintro e w1 ⟨rfl, rfl⟩)
  go_ret
  exact ⟨rfl, rfl⟩
theorem mirrored_any (n i : Int) (hn : 1 ≤ n) (hn2 : n ≤ 1024) (w : World) : Calls Try.prog 65 #[.int .i64 n, .int .i64 i] w fun e w' => e = .returned (.int .i64 (borV 2 n i)) ∧ w' = w := by
  have e : borV 2 n i = mirV n i := rfl
  rw [e]
  clear e
  unfold mirV
  by_cases h1 : n = 1
  · rw [if_pos h1]
    subst h1
    go_enter Try.func65, Try.ntmps65
    go_wp2_with fail
    go_ret
    exact ⟨rfl, rfl⟩
  · rw [if_neg h1]
    have hb : (n == 1) = false := by rw [beq_eq_false_iff_ne]; exact h1
    obtain ⟨T, hT⟩ : ∃ T, 2 * (n - 1) = T := ⟨_, rfl⟩
    have hT1 : 1 ≤ T := by omega
    have hT2 : T ≤ 4096 := by omega
    have A := modulo_any i T hT1 hT2 w
    have l1 := Int.emod_nonneg i (show T ≠ 0 by omega)
    have l2 := Int.emod_lt_of_pos i (show 0 < T by omega)
    rw [hT]
    have w1 : IntKind.i64.wrap (n - 1) = n - 1 := by rw [IntKind.wrap_i64]; omega
    have w2 : IntKind.i64.wrap (2 * (n - 1)) = T := by rw [IntKind.wrap_i64]; omega
    by_cases h2 : i % T < n
    · rw [if_pos h2]
      generalize i % T = m at A l1 l2 h2 ⊢
      go_enter Try.func65, Try.ntmps65
      go_wp2_with fail
      refine A.mono ?_
      rintro e w1 ⟨rfl, rfl⟩
      go_wp2_with fail
      go_ret
      exact ⟨rfl, rfl⟩
    · rw [if_neg h2]
      generalize i % T = m at A l1 l2 h2 ⊢
      have h3 : decide (m < n) = false := decide_eq_false h2
      go_enter Try.func65, Try.ntmps65
      go_wp2_with fail
      refine A.mono ?_
      rintro e w1 ⟨rfl, rfl⟩
      go_wp2_with fail
      go_ret
      exact ⟨rfl, rfl⟩

/-- What stands for a border's function. -/
def bfn (k : Int) : Nat := if k = 1 then 64 else if k = 2 then 65 else 66
def bFn (k : Int) : Value := .func (.func (bfn k)) #[] #[]
theorem bfn_any (k n i : Int) (hk : k = 1 ∨ k = 2 ∨ k = 3) (hn : 1 ≤ n) (hn2 : n ≤ 1024) (w : World) : Calls Try.prog (bfn k) #[.int .i64 n, .int .i64 i] w fun e w' => e = .returned (.int .i64 (borV k n i)) ∧ w' = w := by
  rcases hk with rfl | rfl | rfl
  · exact clamped_any n i hn hn2 w
  · exact mirrored_any n i hn hn2 w
  · exact wrapped_any n i hn hn2 w
theorem bfn_enters (k : Int) (hk : k = 1 ∨ k = 2 ∨ k = 3) : ∀ (args : Array Value) (w : World), (callFunc (bfn k) args).run Try.prog w = .ok (.enter (bfn k) args) w := by
  rcases hk with rfl | rfl | rfl
  · exact enters_of Try.func64 (by kernel_rfl) rfl
  · exact enters_of Try.func65 (by kernel_rfl) rfl
  · exact enters_of Try.func66 (by kernel_rfl) rfl
theorem borderOf_some (k : Int) (hk : k = 1 ∨ k = 2 ∨ k = 3) (w : World) : Calls Try.prog 49 #[.int .i64 k] w fun e w' => e = .returned (bFn k) ∧ w' = w := by
  rcases hk with rfl | rfl | rfl
  · go_enter Try.func49, Try.ntmps49
    go_wp2_with fail
    go_ret
    exact ⟨rfl, rfl⟩
  · go_enter Try.func49, Try.ntmps49
    go_wp2_with fail
    go_ret
    exact ⟨rfl, rfl⟩
  · go_enter Try.func49, Try.ntmps49
    go_wp2_with fail
    go_ret
    exact ⟨rfl, rfl⟩
theorem borderOf_none (k : Int) (hk : ¬ (k = 1 ∨ k = 2 ∨ k = 3)) (w : World) : Calls Try.prog 49 #[.int .i64 k] w fun e w' => e = .returned .nilFunc ∧ w' = w := by
  have h1 : (k == 1) = false := by rw [beq_eq_false_iff_ne]; omega
  have h2 : (k == 2) = false := by rw [beq_eq_false_iff_ne]; omega
  have h3 : (k == 3) = false := by rw [beq_eq_false_iff_ne]; omega
  go_enter Try.func49, Try.ntmps49
  go_wp2_with fail
  go_ret
  exact ⟨rfl, rfl⟩
/-- What Border answers. -/
def borE (k n : Int) : Int := if k = 1 ∨ k = 2 ∨ k = 3 then (if sideB n = true then 0 else 50) else 53
def borA (k n i : Int) : Int := if k = 1 ∨ k = 2 ∨ k = 3 then (if sideB n = true then borV k n i else 0) else 0
theorem fn_nil (w : World) (f : Nat) : (binOp .eql 80 (.func (.func f) #[] #[]) .nilFunc).run Try.prog w = .ok (.bool false) w := by kernel_rfl
theorem nil_nil (w : World) : (binOp .eql 80 .nilFunc .nilFunc).run Try.prog w = .ok (.bool true) w := by kernel_rfl
set_option maxHeartbeats 1000000 in
set_option maxRecDepth 100000 in
theorem border_any (k n i : Int) (w : World) : Calls Try.prog 35 #[.int .i64 k, .int .i64 n, .int .i64 i] w fun e w' => e = .returned (.tuple #[.int .i64 (borA k n i), .int .i64 (borE k n)]) ∧ w' = w := by
  have f1 := fn_nil
  have f2 := nil_nil
  unfold borA borE
  by_cases hk : k = 1 ∨ k = 2 ∨ k = 3
  · rw [if_pos hk, if_pos hk]
    have A := borderOf_some k hk w
    have S := isSide_any n w
    by_cases hs : sideB n = true
    · rw [if_pos hs, if_pos hs]
      rw [hs] at S
      obtain ⟨n1, n2⟩ := sideB_true.1 hs
      have B := bfn_any k n i hk n1 n2 w
      have E := bfn_enters k hk
      unfold bFn at A
      generalize borV k n i = V at B ⊢
      generalize bfn k = f at A B E
      clear hk hs
      go_enter Try.func35, Try.ntmps35
      go_wp2_with fail
      refine A.mono ?_
      rintro e w1 ⟨rfl, rfl⟩
      go_wp2_with fail
      refine S.mono ?_
      rintro e w1 ⟨rfl, rfl⟩
      go_wp2_with (go_at_fn f; refine B.mono ?_; rintro e w1 ⟨rfl, rfl⟩)
      go_ret2
      exact ⟨rfl, rfl⟩
    · rw [if_neg hs, if_neg hs]
      have hs' : sideB n = false := by cases h : sideB n; rfl; exact absurd h hs
      rw [hs'] at S
      unfold bFn at A
      generalize bfn k = f at A
      clear hk hs hs'
      go_enter Try.func35, Try.ntmps35
      go_wp2_with fail
      refine A.mono ?_
      rintro e w1 ⟨rfl, rfl⟩
      go_wp2_with fail
      refine S.mono ?_
      rintro e w1 ⟨rfl, rfl⟩
      go_wp2_with fail
      go_ret2
      exact ⟨rfl, rfl⟩
  · rw [if_neg hk, if_neg hk]
    have A := borderOf_none k hk w
    clear hk
    go_enter Try.func35, Try.ntmps35
    go_wp2_with fail
    refine A.mono ?_
    rintro e w1 ⟨rfl, rfl⟩
    go_wp2_with fail
    go_ret2
    exact ⟨rfl, rfl⟩
end Go.Proofs.Ytikhmlcmmabapaa
/- The document's Size, Check and Border. -/
namespace Go.Proofs.Ytikhmlcmmabapaa
open Go.RowKit
set_option linter.unusedVariables false
set_option linter.unusedSimpArgs false

set_option maxRecDepth 100000 in
theorem rsize_any (W H : Int) (w : World) : Calls Try.prog 46 #[.int .i64 W, .int .i64 H] w fun e w' => e = .returned (.bool (sizeB W H)) ∧ w' = w := by
  by_cases h1 : 1 ≤ W
  · by_cases h2 : W ≤ 1024
    · by_cases h3 : 1 ≤ H
      · by_cases h4 : H ≤ 1024
        · obtain ⟨a1, a2⟩ := area_le ⟨h1, h2⟩ ⟨h3, h4⟩
          have hw : IntKind.i64.wrap (W * H) = W * H := by rw [IntKind.wrap_i64]; omega
          by_cases h5 : W * H ≤ 65536
          · have e : sizeB W H = true := sizeB_true.2 ⟨h1, h2, h3, h4, h5⟩
            rw [e]; clear e
            generalize hA : W * H = A at a1 a2 h5
            clear hw
            go_enter Try.func46, Try.ntmps46
            go_wp2_with fail
            go_ret
            exact ⟨rfl, rfl⟩
          · have e : sizeB W H = false := sizeB_false (fun h => h5 h.2.2.2.2)
            rw [e]; clear e
            generalize hA : W * H = A at a1 a2 h5
            clear hw
            have h6 : decide (A ≤ 65536) = false := decide_eq_false h5
            go_enter Try.func46, Try.ntmps46
            go_wp2_with fail
            go_ret
            exact ⟨rfl, rfl⟩
        · have e : sizeB W H = false := sizeB_false (fun h => h4 h.2.2.2.1)
          rw [e]; clear e
          have h6 : decide (H ≤ 1024) = false := decide_eq_false h4
          go_enter Try.func46, Try.ntmps46
          go_wp2_with fail
          go_ret
          exact ⟨rfl, rfl⟩
      · have e : sizeB W H = false := sizeB_false (fun h => h3 h.2.2.1)
        rw [e]; clear e
        have h6 : decide (1 ≤ H) = false := decide_eq_false h3
        go_enter Try.func46, Try.ntmps46
        go_wp2_with fail
        go_ret
        exact ⟨rfl, rfl⟩
    · have e : sizeB W H = false := sizeB_false (fun h => h2 h.2.1)
      rw [e]; clear e
      have h6 : decide (W ≤ 1024) = false := decide_eq_false h2
      go_enter Try.func46, Try.ntmps46
      go_wp2_with fail
      go_ret
      exact ⟨rfl, rfl⟩
  · have e : sizeB W H = false := sizeB_false (fun h => h1 h.1)
    rw [e]; clear e
    have h6 : decide (1 ≤ W) = false := decide_eq_false h1
    go_enter Try.func46, Try.ntmps46
    go_wp2_with fail
    go_ret
    exact ⟨rfl, rfl⟩
set_option maxHeartbeats 1000000 in
set_option maxRecDepth 100000 in
theorem rcheck_any (W H : Int) (a : Option Addr) (n c : Nat) (hn : n ≤ 9223372036854775807) (w : World) :
    Calls Try.prog 30 #[.agg #[.int .i64 W, .int .i64 H, .slice a n c]] w fun e w' => e = .returned (.int .i64 (chk W H n)) ∧ Q w w' := by
  have q0 : ∀ c t, Q w (w.alloc (.cells c t)) := fun c t => (Q.refl w).cells c t
  have Q0 : Hid (∀ c t, Q w (w.alloc (.cells c t))) := q0
  clear q0
  cases hS : sizeB W H
  · have A : ∀ w : World, Calls Try.prog 46 #[.int .i64 W, .int .i64 H] w fun e w' => e = .returned (.bool false) ∧ w' = w := fun w => hS ▸ rsize_any W H w
    rw [chk_bad hS]
    clear hS
    go_enter Try.func30, Try.ntmps30
    go_wp2_with (go_at_call 46; refine (A _).mono ?_; rintro e w1 ⟨rfl, rfl⟩)
    go_ret
    exact ⟨rfl, Q0.out _ _⟩
  · have A : ∀ w : World, Calls Try.prog 46 #[.int .i64 W, .int .i64 H] w fun e w' => e = .returned (.bool true) ∧ w' = w := fun w => hS ▸ rsize_any W H w
    obtain ⟨h1, h2, h3, h4, h5⟩ := sizeB_true.1 hS
    have h6 := area_le ⟨h1, h2⟩ ⟨h3, h4⟩
    by_cases hc : (n : Int) = W * H
    · rw [chk_ok hS hc]
      have hw : IntKind.i64.wrap (W * H) = W * H := by rw [IntKind.wrap_i64]; omega
      have hb : ((n : Int) == W * H) = true := by rw [hc]; simp
      have hb2 : ((n : Int) != W * H) = false := by rw [hc]; simp
      clear hS hc h5 h6 h1 h2 h3 h4
      go_enter Try.func30, Try.ntmps30
      go_wp2_with (go_at_call 46; refine (A _).mono ?_; rintro e w1 ⟨rfl, rfl⟩)
      go_ret
      exact ⟨rfl, Q0.out _ _⟩
    · rw [chk_count hS hc]
      have hw : IntKind.i64.wrap (W * H) = W * H := by rw [IntKind.wrap_i64]; omega
      have hb : ((n : Int) == W * H) = false := by rw [beq_eq_false_iff_ne]; exact hc
      have hb2 : ((n : Int) != W * H) = true := by rw [bne_iff_ne]; exact hc
      clear hS hc h5 h6 h1 h2 h3 h4
      go_enter Try.func30, Try.ntmps30
      go_wp2_with (go_at_call 46; refine (A _).mono ?_; rintro e w1 ⟨rfl, rfl⟩)
      go_ret
      exact ⟨rfl, Q0.out _ _⟩
theorem tmod_twice (i n : Int) (hn : 0 < n) : Int.tmod (Int.tmod i n + n) n = i % n := by
  obtain ⟨h1, h2, h3, h4⟩ := tmod_mod i n hn
  rw [Int.tmod_eq_emod_of_nonneg (by omega), Int.add_emod_right]
  by_cases h : Int.tmod i n < 0
  · have := h2 h
    have l := Int.emod_nonneg i (show n ≠ 0 by omega)
    rw [← Int.add_emod_right, this, Int.emod_emod]
  · rw [h1 (by omega), Int.emod_emod]
set_option maxHeartbeats 2000000 in
set_option maxRecDepth 100000 in
theorem rborder_any (k n i : Int) (w : World) : Calls Try.prog 31 #[.int .i64 k, .int .i64 n, .int .i64 i] w fun e w' => e = .returned (.tuple #[.int .i64 (borA k n i), .int .i64 (borE k n)]) ∧ w' = w := by
  unfold borA borE
  by_cases hk : k = 1 ∨ k = 2 ∨ k = 3
  · rw [if_pos hk, if_pos hk]
    by_cases hs : sideB n = true
    · rw [if_pos hs, if_pos hs]
      obtain ⟨n1, n2⟩ := sideB_true.1 hs
      have hn1 : ¬ n < 1 := by omega
      have hn2 : ¬ 1024 < n := by omega
      have w1 : IntKind.i64.wrap (n - 1) = n - 1 := by rw [IntKind.wrap_i64]; omega
      clear hs
      rcases hk with rfl | rfl | rfl
      · have e : borV 1 n i = claV n i := rfl
        rw [e]
        clear e
        unfold claV
        by_cases h1 : i < 0
        · rw [if_pos h1]
          have h3 : i < n - 1 := by omega
          go_enter Try.func31, Try.ntmps31
          go_wp2_with fail
          go_ret2
          exact ⟨rfl, rfl⟩
        · rw [if_neg h1]
          by_cases h2 : i < n
          · rw [if_pos h2]
            rcases Int.lt_or_eq_of_le (show i ≤ n - 1 by omega) with h3 | h3
            · rcases Int.lt_or_eq_of_le (show 0 ≤ i by omega) with h4 | h4
              · go_enter Try.func31, Try.ntmps31
                go_wp2_with fail
                go_ret2
                exact ⟨rfl, rfl⟩
              · subst h4
                go_enter Try.func31, Try.ntmps31
                go_wp2_with fail
                go_ret2
                exact ⟨rfl, rfl⟩
            · obtain ⟨m, hm⟩ : ∃ m, n - 1 = m := ⟨_, rfl⟩
              rw [hm] at w1 h3
              subst h3
              have hm' : IntKind.i64.wrap (n - 1) = i := by rw [hm]; exact w1
              rcases Int.lt_or_eq_of_le (show 0 ≤ i by omega) with h4 | h4
              · clear hm
                go_enter Try.func31, Try.ntmps31
                go_wp2_with fail
                go_ret2
                exact ⟨rfl, rfl⟩
              · subst h4
                clear hm
                go_enter Try.func31, Try.ntmps31
                go_wp2_with fail
                go_ret2
                exact ⟨rfl, rfl⟩
          · rw [if_neg h2]
            obtain ⟨m, hm⟩ : ∃ m, n - 1 = m := ⟨_, rfl⟩
            have hm' : IntKind.i64.wrap (n - 1) = m := by rw [← hm]; exact w1
            have h3 : m < i := by omega
            rw [hm]
            rcases Int.lt_or_eq_of_le (show 0 ≤ m by omega) with h4 | h4
            · clear w1 hm
              go_enter Try.func31, Try.ntmps31
              go_wp2_with fail
              go_ret2
              exact ⟨rfl, rfl⟩
            · obtain rfl : n = 1 := by omega
              subst h4
              clear hm' w1
              go_enter Try.func31, Try.ntmps31
              go_wp2_with fail
              go_ret2
              exact ⟨rfl, rfl⟩
      · have e : borV 2 n i = mirV n i := rfl
        rw [e]
        clear e
        unfold mirV
        by_cases h1 : n = 1
        · rw [if_pos h1]
          subst h1
          go_enter Try.func31, Try.ntmps31
          go_wp2_with fail
          go_ret2
          exact ⟨rfl, rfl⟩
        · rw [if_neg h1]
          have hb : (n == 1) = false := by rw [beq_eq_false_iff_ne]; exact h1
          obtain ⟨T, hT⟩ : ∃ T, 2 * (n - 1) = T := ⟨_, rfl⟩
          have hT1 : 1 ≤ T := by omega
          have hT2 : T ≤ 4096 := by omega
          have hT0 : T ≠ 0 := by omega
          have hTb : (T == 0) = false := by rw [beq_eq_false_iff_ne]; exact hT0
          have l1 := Int.emod_nonneg i (show T ≠ 0 by omega)
          have l2 := Int.emod_lt_of_pos i (show 0 < T by omega)
          rw [hT]
          have w2 : IntKind.i64.wrap (2 * (n - 1)) = T := by rw [IntKind.wrap_i64]; omega
          have tw := tmod_twice i T (by omega)
          obtain ⟨_, _, t3, t4⟩ := tmod_mod i T (by omega)
          have w3 : IntKind.i64.wrap (Int.tmod i T) = Int.tmod i T := by rw [IntKind.wrap_i64]; omega
          have w4 : IntKind.i64.wrap (Int.tmod i T + T) = Int.tmod i T + T := by rw [IntKind.wrap_i64]; omega
          have w5 : IntKind.i64.wrap (i % T) = i % T := by rw [IntKind.wrap_i64]; omega
          generalize hm : i % T = m at tw l1 l2 w5 ⊢
          by_cases h2 : m < n
          · rw [if_pos h2]
            go_enter Try.func31, Try.ntmps31
            go_wp2_with fail
            go_ret2
            exact ⟨rfl, rfl⟩
          · rw [if_neg h2]
            have h3 : decide (m < n) = false := decide_eq_false h2
            go_enter Try.func31, Try.ntmps31
            go_wp2_with fail
            go_ret2
            exact ⟨rfl, rfl⟩
      · have e : borV 3 n i = i % n := rfl
        rw [e]
        clear e
        have hT0 : n ≠ 0 := by omega
        have hTb : (n == 0) = false := by rw [beq_eq_false_iff_ne]; exact hT0
        have l1 := Int.emod_nonneg i (show n ≠ 0 by omega)
        have l2 := Int.emod_lt_of_pos i (show 0 < n by omega)
        have tw := tmod_twice i n (by omega)
        obtain ⟨_, _, t3, t4⟩ := tmod_mod i n (by omega)
        have w3 : IntKind.i64.wrap (Int.tmod i n) = Int.tmod i n := by rw [IntKind.wrap_i64]; omega
        have w4 : IntKind.i64.wrap (Int.tmod i n + n) = Int.tmod i n + n := by rw [IntKind.wrap_i64]; omega
        have w5 : IntKind.i64.wrap (i % n) = i % n := by rw [IntKind.wrap_i64]; omega
        generalize hm : i % n = m at tw l1 l2 w5 ⊢
        go_enter Try.func31, Try.ntmps31
        go_wp2_with fail
        go_ret2
        exact ⟨rfl, rfl⟩
    · rw [if_neg hs, if_neg hs]
      have hs' : ¬ (1 ≤ n ∧ n ≤ 1024) := fun h => hs (sideB_true.2 h)
      clear hs
      have hk' : (k != 1) = false ∨ ((k != 1) = true ∧ (k != 2) = false) ∨ ((k != 1) = true ∧ (k != 2) = true ∧ (k != 3) = false) := by
        rcases hk with rfl | rfl | rfl <;> simp
      by_cases h1 : n < 1
      · rcases hk with rfl | rfl | rfl
        all_goals (go_enter Try.func31, Try.ntmps31; go_wp2_with fail; go_ret2; exact ⟨rfl, rfl⟩)
      · have h2 : 1024 < n := by omega
        rcases hk with rfl | rfl | rfl
        all_goals (go_enter Try.func31, Try.ntmps31; go_wp2_with fail; go_ret2; exact ⟨rfl, rfl⟩)
  · rw [if_neg hk, if_neg hk]
    have h1 : (k != 1) = true := by rw [bne_iff_ne]; omega
    have h2 : (k != 2) = true := by rw [bne_iff_ne]; omega
    have h3 : (k != 3) = true := by rw [bne_iff_ne]; omega
    go_enter Try.func31, Try.ntmps31
    go_wp2_with fail
    go_ret2
    exact ⟨rfl, rfl⟩
end Go.Proofs.Ytikhmlcmmabapaa
