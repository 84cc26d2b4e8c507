/- Borders: the program's and the document's; the document's Size and Check. -/
import Derived.Test.YtkgojnjlfkijiaaGreatG2a0300ab
import Derived.Shelf.Abstract
namespace Go.Proofs.YtkgojnjlfkijiaaGreat
open Go.RowKit
set_option linter.unusedVariables false
set_option linter.unusedSimpArgs false

def claV (n i : Int) : Int := if i < 0 then 0 else if i < n then i else n - 1
def mirV (n i : Int) : Int := if n = 1 then 0 else if i % (2 * (n - 1)) < n then i % (2 * (n - 1)) else 2 * (n - 1) - i % (2 * (n - 1))
/-- The place within, for one beyond. -/
def borV (k n i : Int) : Int := if k = 1 then claV n i else if k = 2 then mirV n i else i % n
theorem borV_lt {k n : Int} (i : Int) (hn : 1 ≤ n) : 0 ≤ borV k n i ∧ borV k n i < n := by
  unfold borV claV mirV
  split
  · split
    · omega
    · split <;> omega
  · split
    · split
      · omega
      · have h1 := Int.emod_nonneg i (show 2 * (n - 1) ≠ 0 by omega)
        have h2 := Int.emod_lt_of_pos i (show 0 < 2 * (n - 1) by omega)
        split <;> omega
    · exact ⟨Int.emod_nonneg i (by omega), Int.emod_lt_of_pos i (by omega)⟩
/-- What Border answers. -/
def borE (k n : Int) : Int := if k = 1 ∨ k = 2 ∨ k = 3 then (if sideB n = true then 0 else 50) else 53
def borA (k n i : Int) : Int := if k = 1 ∨ k = 2 ∨ k = 3 then (if sideB n = true then borV k n i else 0) else 0
end Go.Proofs.YtkgojnjlfkijiaaGreat
/- The document's Size, Check and Border. -/
namespace Go.Proofs.YtkgojnjlfkijiaaGreat
open Go.RowKit
set_option linter.unusedVariables false
set_option linter.unusedSimpArgs false

set_option maxRecDepth 100000 in
theorem rsize_any (W H : Int) (w : World) : Calls Tryz.prog 132 #[.int .i64 W, .int .i64 H] w fun e w' => e = .returned (.bool (sizeB W H)) ∧ w' = w := by
  by_cases h1 : 1 ≤ W
  · by_cases h2 : W ≤ 1024
    · by_cases h3 : 1 ≤ H
      · by_cases h4 : H ≤ 1024
        · obtain ⟨a1, a2⟩ := area_le ⟨h1, h2⟩ ⟨h3, h4⟩
          have hw : IntKind.i64.wrap (W * H) = W * H := by rw [IntKind.wrap_i64]; omega
          by_cases h5 : W * H ≤ 65536
          · have e : sizeB W H = true := sizeB_true.2 ⟨h1, h2, h3, h4, h5⟩
            rw [e]; clear e
            generalize hA : W * H = A at a1 a2 h5
            clear hw
            go_enter Tryz.func132, Tryz.ntmps132
            go_wp2_with fail
            go_ret
            exact ⟨rfl, rfl⟩
          · have e : sizeB W H = false := sizeB_false (fun h => h5 h.2.2.2.2)
            rw [e]; clear e
            generalize hA : W * H = A at a1 a2 h5
            clear hw
            have h6 : decide (A ≤ 65536) = false := decide_eq_false h5
            go_enter Tryz.func132, Tryz.ntmps132
            go_wp2_with fail
            go_ret
            exact ⟨rfl, rfl⟩
        · have e : sizeB W H = false := sizeB_false (fun h => h4 h.2.2.2.1)
          rw [e]; clear e
          have h6 : decide (H ≤ 1024) = false := decide_eq_false h4
          go_enter Tryz.func132, Tryz.ntmps132
          go_wp2_with fail
          go_ret
          exact ⟨rfl, rfl⟩
      · have e : sizeB W H = false := sizeB_false (fun h => h3 h.2.2.1)
        rw [e]; clear e
        have h6 : decide (1 ≤ H) = false := decide_eq_false h3
        go_enter Tryz.func132, Tryz.ntmps132
        go_wp2_with fail
        go_ret
        exact ⟨rfl, rfl⟩
    · have e : sizeB W H = false := sizeB_false (fun h => h2 h.2.1)
      rw [e]; clear e
      have h6 : decide (W ≤ 1024) = false := decide_eq_false h2
      go_enter Tryz.func132, Tryz.ntmps132
      go_wp2_with fail
      go_ret
      exact ⟨rfl, rfl⟩
  · have e : sizeB W H = false := sizeB_false (fun h => h1 h.1)
    rw [e]; clear e
    have h6 : decide (1 ≤ W) = false := decide_eq_false h1
    go_enter Tryz.func132, Tryz.ntmps132
    go_wp2_with fail
    go_ret
    exact ⟨rfl, rfl⟩
set_option maxHeartbeats 1000000 in
set_option maxRecDepth 100000 in
theorem rcheck_any (W H : Int) (a : Option Addr) (n c : Nat) (hn : n ≤ 9223372036854775807) (w : World) :
    Calls Tryz.prog 120 #[.agg #[.int .i64 W, .int .i64 H, .slice a n c]] w fun e w' => e = .returned (.int .i64 (chk W H n)) ∧ Q w w' := by
  have q0 : ∀ c t, Q w (w.alloc (.cells c t)) := fun c t => (Q.refl w).cells c t
  have Q0 : Hid (∀ c t, Q w (w.alloc (.cells c t))) := q0
  clear q0
  cases hS : sizeB W H
  · have A : ∀ w : World, Calls Tryz.prog 132 #[.int .i64 W, .int .i64 H] w fun e w' => e = .returned (.bool false) ∧ w' = w := fun w => hS ▸ rsize_any W H w
    rw [chk_bad hS]
    clear hS
    go_enter Tryz.func120, Tryz.ntmps120
    go_wp2_with (go_at_call 132; refine (A _).mono ?_; rintro e w1 ⟨rfl, rfl⟩)
    go_ret
    exact ⟨rfl, Q0.out _ _⟩
  · have A : ∀ w : World, Calls Tryz.prog 132 #[.int .i64 W, .int .i64 H] w fun e w' => e = .returned (.bool true) ∧ w' = w := fun w => hS ▸ rsize_any W H w
    obtain ⟨h1, h2, h3, h4, h5⟩ := sizeB_true.1 hS
    have h6 := area_le ⟨h1, h2⟩ ⟨h3, h4⟩
    by_cases hc : (n : Int) = W * H
    · rw [chk_ok hS hc]
      have hw : IntKind.i64.wrap (W * H) = W * H := by rw [IntKind.wrap_i64]; omega
      have hb : ((n : Int) == W * H) = true := by rw [hc]; simp
      have hb2 : ((n : Int) != W * H) = false := by rw [hc]; simp
      clear hS hc h5 h6 h1 h2 h3 h4
      go_enter Tryz.func120, Tryz.ntmps120
      go_wp2_with (go_at_call 132; refine (A _).mono ?_; rintro e w1 ⟨rfl, rfl⟩)
      go_ret
      exact ⟨rfl, Q0.out _ _⟩
    · rw [chk_count hS hc]
      have hw : IntKind.i64.wrap (W * H) = W * H := by rw [IntKind.wrap_i64]; omega
      have hb : ((n : Int) == W * H) = false := by rw [beq_eq_false_iff_ne]; exact hc
      have hb2 : ((n : Int) != W * H) = true := by rw [bne_iff_ne]; exact hc
      clear hS hc h5 h6 h1 h2 h3 h4
      go_enter Tryz.func120, Tryz.ntmps120
      go_wp2_with (go_at_call 132; refine (A _).mono ?_; rintro e w1 ⟨rfl, rfl⟩)
      go_ret
      exact ⟨rfl, Q0.out _ _⟩
theorem tmod_twice (i n : Int) (hn : 0 < n) : Int.tmod (Int.tmod i n + n) n = i % n := by
  obtain ⟨h1, h2, h3, h4⟩ := tmod_mod i n hn
  rw [Int.tmod_eq_emod_of_nonneg (by omega), Int.add_emod_right]
  by_cases h : Int.tmod i n < 0
  · have := h2 h
    have l := Int.emod_nonneg i (show n ≠ 0 by omega)
    rw [← Int.add_emod_right, this, Int.emod_emod]
  · rw [h1 (by omega), Int.emod_emod]
end Go.Proofs.YtkgojnjlfkijiaaGreat
