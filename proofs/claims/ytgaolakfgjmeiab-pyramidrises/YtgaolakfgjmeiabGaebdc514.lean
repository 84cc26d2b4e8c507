/- Borders: the program's and the document's; the document's Size and Check. -/
import Derived.Test.YtgaolakfgjmeiabGec6c67fb
import Derived.Shelf.Abstract
namespace Go.Proofs.Ytgaolakfgjmeiab
open Go.RowKit
set_option linter.unusedVariables false
set_option linter.unusedSimpArgs false

def claV (n i : Int) : Int := if i < 0 then 0 else if i < n then i else n - 1
def mirV (n i : Int) : Int := if n = 1 then 0 else if i % (2 * (n - 1)) < n then i % (2 * (n - 1)) else 2 * (n - 1) - i % (2 * (n - 1))
/-- The place within, for one beyond. -/
def borV (k n i : Int) : Int := if k = 1 then claV n i else if k = 2 then mirV n i else i % n
theorem borV_lt {k n : Int} (i : Int) (hn : 1 ≤ n) : 0 ≤ borV k n i ∧ borV k n i < n := by
  unfold borV claV mirV
  split
  · split
    · omega
    · split <;> omega
  · split
    · split
      · omega
      · have h1 := Int.emod_nonneg i (show 2 * (n - 1) ≠ 0 by omega)
        have h2 := Int.emod_lt_of_pos i (show 0 < 2 * (n - 1) by omega)
        split <;> omega
    · exact ⟨Int.emod_nonneg i (by omega), Int.emod_lt_of_pos i (by omega)⟩
theorem clamped_any (n i : Int) (hn : 1 ≤ n) (hn2 : n ≤ 1024) (w : World) : Calls Try.prog 50 #[.int .i64 n, .int .i64 i] w fun e w' => e = .returned (.int .i64 (borV 1 n i)) ∧ w' = w := by
  have e : borV 1 n i = claV n i := rfl
  rw [e]
  clear e
  unfold claV
  have hw : IntKind.i64.wrap (n - 1) = n - 1 := by rw [IntKind.wrap_i64]; omega
  by_cases h1 : i < 0
  · rw [if_pos h1]
    by_cases h2 : n = 1
    · subst h2
      go_enter Try.func50, Try.ntmps50
      go_wp2_with fail
      go_ret
      exact ⟨rfl, rfl⟩
    · have h3 : (0 : Int) < n - 1 := by omega
      go_enter Try.func50, Try.ntmps50
      go_wp2_with fail
      go_ret
      exact ⟨rfl, rfl⟩
  · rw [if_neg h1]
    by_cases h2 : i < n
    · rw [if_pos h2]
      rcases Int.lt_or_eq_of_le (show i ≤ n - 1 by omega) with h3 | h3
      · rcases Int.lt_or_eq_of_le (show 0 ≤ i by omega) with h4 | h4
        · go_enter Try.func50, Try.ntmps50
          go_wp2_with fail
          go_ret
          exact ⟨rfl, rfl⟩
        · subst h4
          go_enter Try.func50, Try.ntmps50
          go_wp2_with fail
          go_ret
          exact ⟨rfl, rfl⟩
      · obtain ⟨m, hm⟩ : ∃ m, n - 1 = m := ⟨_, rfl⟩
        rw [hm] at hw h3
        subst h3
        have hm' : IntKind.i64.wrap (n - 1) = i := by rw [hm]; exact hw
        rcases Int.lt_or_eq_of_le (show 0 ≤ i by omega) with h4 | h4
        · clear hm
          go_enter Try.func50, Try.ntmps50
          go_wp2_with fail
          go_ret
          exact ⟨rfl, rfl⟩
        · subst h4
          clear hm
          go_enter Try.func50, Try.ntmps50
          go_wp2_with fail
          go_ret
          exact ⟨rfl, rfl⟩
    · rw [if_neg h2]
      have h3 : n - 1 < i := by omega
      have h4 : 0 < i := by omega
      go_enter Try.func50, Try.ntmps50
      go_wp2_with fail
      go_ret
      exact ⟨rfl, rfl⟩
theorem wrapped_any (n i : Int) (hn : 1 ≤ n) (hn2 : n ≤ 1024) (w : World) : Calls Try.prog 52 #[.int .i64 n, .int .i64 i] w fun e w' => e = .returned (.int .i64 (borV 3 n i)) ∧ w' = w := by
  have A := modulo_any i n hn (by omega) w
  have e : borV 3 n i = i % n := rfl
  rw [e]
  clear e
  go_enter Try.func52, Try.ntmps52
  go_wp2_with (go_at_call 54; refine A.mono ?_; rintro e w1 ⟨rfl, rfl⟩)
  go_ret
  exact ⟨rfl, rfl⟩
theorem mirrored_any (n i : Int) (hn : 1 ≤ n) (hn2 : n ≤ 1024) (w : World) : Calls Try.prog 51 #[.int .i64 n, .int .i64 i] w fun e w' => e = .returned (.int .i64 (borV 2 n i)) ∧ w' = w := by
  have e : borV 2 n i = mirV n i := rfl
  rw [e]
  clear e
  unfold mirV
  by_cases h1 : n = 1
  · rw [if_pos h1]
    subst h1
    go_enter Try.func51, Try.ntmps51
    go_wp2_with fail
    go_ret
    exact ⟨rfl, rfl⟩
  · rw [if_neg h1]
    have hb : (n == 1) = false := by rw [beq_eq_false_iff_ne]; exact h1
    obtain ⟨T, hT⟩ : ∃ T, 2 * (n - 1) = T := ⟨_, rfl⟩
    have hT1 : 1 ≤ T := by omega
    have hT2 : T ≤ 4096 := by omega
    have A := modulo_any i T hT1 hT2 w
    have l1 := Int.emod_nonneg i (show T ≠ 0 by omega)
    have l2 := Int.emod_lt_of_pos i (show 0 < T by omega)
    rw [hT]
    have w1 : IntKind.i64.wrap (n - 1) = n - 1 := by rw [IntKind.wrap_i64]; omega
    have w2 : IntKind.i64.wrap (2 * (n - 1)) = T := by rw [IntKind.wrap_i64]; omega
    by_cases h2 : i % T < n
    · rw [if_pos h2]
      generalize i % T = m at A l1 l2 h2 ⊢
      go_enter Try.func51, Try.ntmps51
      go_wp2_with fail
      refine A.mono ?_
      rintro e w1 ⟨rfl, rfl⟩
      go_wp2_with fail
      go_ret
      exact ⟨rfl, rfl⟩
    · rw [if_neg h2]
      generalize i % T = m at A l1 l2 h2 ⊢
      have h3 : decide (m < n) = false := decide_eq_false h2
      go_enter Try.func51, Try.ntmps51
      go_wp2_with fail
      refine A.mono ?_
      rintro e w1 ⟨rfl, rfl⟩
      go_wp2_with fail
      go_ret
      exact ⟨rfl, rfl⟩

/-- What stands for a border's function. -/
def bfn (k : Int) : Nat := if k = 1 then 50 else if k = 2 then 51 else 52
def bFn (k : Int) : Value := .func (.func (bfn k)) #[] #[]
theorem bfn_any (k n i : Int) (hk : k = 1 ∨ k = 2 ∨ k = 3) (hn : 1 ≤ n) (hn2 : n ≤ 1024) (w : World) : Calls Try.prog (bfn k) #[.int .i64 n, .int .i64 i] w fun e w' => e = .returned (.int .i64 (borV k n i)) ∧ w' = w := by
  rcases hk with rfl | rfl | rfl
  · exact clamped_any n i hn hn2 w
  · exact mirrored_any n i hn hn2 w
  · exact wrapped_any n i hn hn2 w
theorem bfn_enters (k : Int) (hk : k = 1 ∨ k = 2 ∨ k = 3) : ∀ (args : Array Value) (w : World), (callFunc (bfn k) args).run Try.prog w = .ok (.enter (bfn k) args) w := by
  rcases hk with rfl | rfl | rfl
  · exact enters_of Try.func50 (by kernel_rfl) rfl
  · exact enters_of Try.func51 (by kernel_rfl) rfl
  · exact enters_of Try.func52 (by kernel_rfl) rfl
theorem borderOf_some (k : Int) (hk : k = 1 ∨ k = 2 ∨ k = 3) (w : World) : Calls Try.prog 48 #[.int .i64 k] w fun e w' => e = .returned (bFn k) ∧ w' = w := by
  rcases hk with rfl | rfl | rfl
  · go_enter Try.func48, Try.ntmps48
    go_wp2_with fail
    go_ret
    exact ⟨rfl, rfl⟩
  · go_enter Try.func48, Try.ntmps48
    go_wp2_with fail
    go_ret
    exact ⟨rfl, rfl⟩
  · go_enter Try.func48, Try.ntmps48
    go_wp2_with fail
    go_ret
    exact ⟨rfl, rfl⟩
theorem borderOf_none (k : Int) (hk : ¬ (k = 1 ∨ k = 2 ∨ k = 3)) (w : World) : Calls Try.prog 48 #[.int .i64 k] w fun e w' => e = .returned .nilFunc ∧ w' = w := by
  have h1 : (k == 1) = false := by rw [beq_eq_false_iff_ne]; omega
  have h2 : (k == 2) = false := by rw [beq_eq_false_iff_ne]; omega
  have h3 : (k == 3) = false := by rw [beq_eq_false_iff_ne]; omega
  go_enter Try.func48, Try.ntmps48
  go_wp2_with fail
  go_ret
  exact ⟨rfl, rfl⟩
/-- What Border answers. -/
def borE (k n : Int) : Int := if k = 1 ∨ k = 2 ∨ k = 3 then (if sideB n = true then 0 else 50) else 53
def borA (k n i : Int) : Int := if k = 1 ∨ k = 2 ∨ k = 3 then (if sideB n = true then borV k n i else 0) else 0
theorem fn_nil (w : World) (f : Nat) : (binOp .eql 85 (.func (.func f) #[] #[]) .nilFunc).run Try.prog w = .ok (.bool false) w := by kernel_rfl
theorem nil_nil (w : World) : (binOp .eql 85 .nilFunc .nilFunc).run Try.prog w = .ok (.bool true) w := by kernel_rfl
set_option maxHeartbeats 1000000 in
set_option maxRecDepth 100000 in
theorem border_any (k n i : Int) (w : World) : Calls Try.prog 45 #[.int .i64 k, .int .i64 n, .int .i64 i] w fun e w' => e = .returned (.tuple #[.int .i64 (borA k n i), .int .i64 (borE k n)]) ∧ w' = w := by
  have f1 := fn_nil
  have f2 := nil_nil
  unfold borA borE
  by_cases hk : k = 1 ∨ k = 2 ∨ k = 3
  · rw [if_pos hk, if_pos hk]
    have A := borderOf_some k hk w
    have S := isSide_any n w
    by_cases hs : sideB n = true
    · rw [if_pos hs, if_pos hs]
      rw [hs] at S
      obtain ⟨n1, n2⟩ := sideB_true.1 hs
      have B := bfn_any k n i hk n1 n2 w
      have E := bfn_enters k hk
      unfold bFn at A
      generalize borV k n i = V at B ⊢
      generalize bfn k = f at A B E
      clear hk hs
      go_enter Try.func45, Try.ntmps45
      go_wp2_with fail
      refine A.mono ?_
      rintro e w1 ⟨rfl, rfl⟩
      go_wp2_with fail
      refine S.mono ?_
      rintro e w1 ⟨rfl, rfl⟩
      go_wp2_with (go_at_fn f; refine B.mono ?_; rintro e w1 ⟨rfl, rfl⟩)
      go_ret2
      exact ⟨rfl, rfl⟩
    · rw [if_neg hs, if_neg hs]
      have hs' : sideB n = false := by cases h : sideB n; rfl; exact absurd h hs
      rw [hs'] at S
      unfold bFn at A
      generalize bfn k = f at A
      clear hk hs hs'
      go_enter Try.func45, Try.ntmps45
      go_wp2_with fail
      refine A.mono ?_
      rintro e w1 ⟨rfl, rfl⟩
      go_wp2_with fail
      refine S.mono ?_
      rintro e w1 ⟨rfl, rfl⟩
      go_wp2_with fail
      go_ret2
      exact ⟨rfl, rfl⟩
  · rw [if_neg hk, if_neg hk]
    have A := borderOf_none k hk w
    clear hk
    go_enter Try.func45, Try.ntmps45
    go_wp2_with fail
    refine A.mono ?_
    rintro e w1 ⟨rfl, rfl⟩
    go_wp2_with fail
    go_ret2
    exact ⟨rfl, rfl⟩
end Go.Proofs.Ytgaolakfgjmeiab
