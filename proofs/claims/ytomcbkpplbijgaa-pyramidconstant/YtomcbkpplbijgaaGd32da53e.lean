/- Arguments as the statements' walks take them: numbers alone. -/
import Derived.Test.YtomcbkpplbijgaaG2a895567
import Derived.ProofKit
import Derived.OpenShut
import Derived.ShutString
import Derived.ChangeOld
import Derived.Below
import Derived.Deep.Slices
import Derived.Deep.SlicePairs
import Derived.Lib.SmallJoins
import Derived.Test.YtomcbkpplbijgaaGb25e337a
import Derived.Test.YtomcbkpplbijgaaG2de05fe4
namespace Go.Proofs.Ytomcbkpplbijgaa
open Go.ChangeShapes Go.WideShapes Go.ChangeAt Go.RowKit Go.Deep
set_option linter.unusedVariables false

theorem prog_own : ownKnob Try.prog.godebug = none := by kernel_rfl
theorem prog_laid : laidOutB Try.prog = true := by kernel_rfl
theorem i64_bd {z : Int} (h : (Lit.int .i64 z).wf = true) : -9223372036854775808 ≤ z ∧ z ≤ 9223372036854775807 := by
  simpa [Lit.wf, IntKind.min, IntKind.max, IntKind.signed, IntKind.bits] using h
theorem u32_bd {z : Int} (h : (Lit.int .u32 z).wf = true) : 0 ≤ z ∧ z ≤ 4294967295 := by
  simpa [Lit.wf, IntKind.min, IntKind.max, IntKind.signed, IntKind.bits] using h
end Go.Proofs.Ytomcbkpplbijgaa
/- Keys of samples as plain numbers; what Key and FromKey return. -/
namespace Go.Proofs.Ytomcbkpplbijgaa
open Go.RowKit

def keyN (s : Nat) : Nat := if s < 2147483648 then s + 2147483648 else 4294967295 - s
def fkeyN (k : Nat) : Nat := if 2147483648 ≤ k then k - 2147483648 else 4294967295 - k
theorem keyN_lt {s : Nat} (h : s < 4294967296) : keyN s < 4294967296 := by unfold keyN; split <;> omega
theorem fkeyN_lt {s : Nat} (h : s < 4294967296) : fkeyN s < 4294967296 := by unfold fkeyN; split <;> omega
theorem keyV_N {s : Nat} (h : s < 4294967296) : keyV (s : Int) = (keyN s : Int) := by
  unfold keyN
  by_cases g : s < 2147483648
  · rw [keyV_lo (by omega), if_pos g]; omega
  · rw [keyV_hi (by omega), if_neg g]; omega
theorem keyN_inj {a b : Nat} (ha : a < 4294967296) (hb : b < 4294967296) (h : keyN a = keyN b) : a = b := by
  unfold keyN at h; split at h <;> split at h <;> omega
theorem fkey_key {s : Nat} (h : s < 4294967296) : fkeyN (keyN s) = s := by
  unfold keyN fkeyN; split <;> split <;> omega
theorem key_fkey {k : Nat} (h : k < 4294967296) : keyN (fkeyN k) = k := by
  unfold keyN fkeyN; split <;> split <;> omega

theorem not_hi (k : Int) (h0 : 2147483648 ≤ k) (h1 : k ≤ 4294967295) : bits .andNot .u32 k 2147483648 = k - 2147483648 := by go_bits2
set_option maxHeartbeats 400000 in
theorem fromkey_any (k : Nat) (h1 : k < 4294967296) (w : World) :
    Calls Try.prog 75 #[.int .u32 k] w fun e w' => e = .returned (.int .u32 (fkeyN k : Nat)) ∧ w' = w := by
  by_cases h : k < 2147483648
  · have e1 := and_lo k (by omega) (by omega)
    go_enter Try.func75, Try.ntmps75
    go_wp2
    go_ret
    exact ⟨ret_int (by unfold fkeyN; rw [if_neg (by omega)]; omega), rfl⟩
  · have e1 := and_hi k (by omega) (by omega)
    have e2 := not_hi k (by omega) (by omega)
    go_enter Try.func75, Try.ntmps75
    go_wp2
    go_ret
    exact ⟨ret_int (by unfold fkeyN; rw [if_pos (by omega)]; omega), rfl⟩
set_option maxHeartbeats 400000 in
theorem keyn_any (s : Nat) (h1 : s < 4294967296) (w : World) :
    Calls Try.prog 74 #[.int .u32 s] w fun e w' => e = .returned (.int .u32 (keyN s : Nat)) ∧ w' = w := by
  have := key_any s (by omega) (by omega) w
  rw [keyV_N h1] at this
  exact this
end Go.Proofs.Ytomcbkpplbijgaa
/- The statements' helpers: sizes, planes that may be. (Out of BlL.) -/
namespace Go.Proofs.Ytomcbkpplbijgaa
open Go.RowKit
set_option linter.unusedVariables false
set_option linter.unusedSimpArgs false

set_option maxHeartbeats 2000000 in
set_option maxRecDepth 100000 in
theorem hsize_b (W H : Int) (w : World) : Calls Try.prog 33 #[.int .i64 W, .int .i64 H] w fun e w' => e = .returned (.bool (sizeB W H)) ∧ w' = w := by
  have E : Hid (sizeB W H = true ↔ SizeB W H) := sizeB_true
  have EF : Hid (¬ SizeB W H → sizeB W H = false) := fun h => by
    cases g : sizeB W H
    · rfl
    · exact absurd (sizeB_true.1 g) h
  generalize sizeB W H = b at *
  rcases Int.lt_or_le W 1 with h0 | h0
  · obtain rfl : b = false := EF.out (fun c => by unfold SizeB at c; omega)
    clear E EF
    go_enter Try.func33, Try.ntmps33
    go_wp2_with fail
    exact bodyPost_ret (v := .bool false) (by simp [results, Try.results33, go_sem] <;> omega) rfl ⟨rfl, rfl⟩
  rcases Int.lt_or_le H 1 with h1 | h1
  · obtain rfl : b = false := EF.out (fun c => by unfold SizeB at c; omega)
    clear E EF
    go_enter Try.func33, Try.ntmps33
    go_wp2_with fail
    exact bodyPost_ret (v := .bool false) (by simp [results, Try.results33, go_sem] <;> omega) rfl ⟨rfl, rfl⟩
  rcases Int.lt_or_le 1024 W with h2 | h2
  · obtain rfl : b = false := EF.out (fun c => by unfold SizeB at c; omega)
    clear E EF
    go_enter Try.func33, Try.ntmps33
    go_wp2_with fail
    exact bodyPost_ret (v := .bool false) (by simp [results, Try.results33, go_sem] <;> omega) rfl ⟨rfl, rfl⟩
  rcases Int.lt_or_le 1024 H with h3 | h3
  · obtain rfl : b = false := EF.out (fun c => by unfold SizeB at c; omega)
    clear E EF
    go_enter Try.func33, Try.ntmps33
    go_wp2_with fail
    exact bodyPost_ret (v := .bool false) (by simp [results, Try.results33, go_sem] <;> omega) rfl ⟨rfl, rfl⟩
  have hb1 : 0 ≤ W * H := Int.mul_nonneg (by omega) (by omega)
  have hb2 : W * H ≤ 1048576 := Int.le_trans (Int.mul_le_mul h2 h3 (by omega) (by omega)) (by decide)
  rcases Int.lt_or_le 65536 (W * H) with h4 | h4
  · obtain rfl : b = false := EF.out (fun c => by unfold SizeB at c; omega)
    clear E EF
    go_enter Try.func33, Try.ntmps33
    go_wp2_with fail
    exact bodyPost_ret (v := .bool false) (by simp [results, Try.results33, go_sem] <;> omega) rfl ⟨rfl, rfl⟩
  · obtain rfl : b = true := E.out.2 (by unfold SizeB; omega)
    clear E EF
    go_enter Try.func33, Try.ntmps33
    go_wp2_with fail
    exact bodyPost_ret (v := .bool true) (by simp [results, Try.results33, go_sem] <;> omega) rfl ⟨rfl, rfl⟩
set_option maxHeartbeats 2000000 in
set_option maxRecDepth 100000 in
theorem may_any (W H : Int) (ad : Option Addr) (n c : Nat) (w : World) : Calls Try.prog 31 #[.agg #[.int .i64 W, .int .i64 H, .slice ad n c]] w fun e w' => e = .returned (.int .i64 (chk W H n)) ∧ Q w w' := by
  obtain ⟨w1, hw1⟩ : ∃ w1, w.alloc (.cells #[.int .i64 W, .int .i64 H, .slice ad n c] 24) = w1 := ⟨_, rfl⟩
  have HQ : Hid (Q w w1) := by show Q w w1; rw [← hw1]; exact (Q.refl w).cells _ _
  have k0 : w1.cell? ⟨w.heap.size, 0, none⟩ = some (.int .i64 W) := by rw [← hw1]; simp [go_sem]
  have k1 : w1.cell? ⟨w.heap.size, 1, none⟩ = some (.int .i64 H) := by rw [← hw1]; simp [go_sem]
  have k2 : w1.cell? ⟨w.heap.size, 2, none⟩ = some (.slice ad n c) := by rw [← hw1]; simp [go_sem]
  have C := hsize_b W H w1
  cases hs : sizeB W H
  · rw [hs] at C
    rw [chk_bad hs]
    go_enter Try.func31, Try.ntmps31
    go_wp2_with fail
    refine C.mono ?_
    rintro e w2 ⟨rfl, hw2⟩
    obtain rfl := hw2.symm
    clear hw2 C
    go_wp2_with fail
    go_ret
    exact ⟨rfl, HQ.out⟩
  · rw [hs] at C
    have hb := sizeB_true.1 hs
    have hb1 : 0 ≤ W * H := Int.mul_nonneg (by unfold SizeB at hb; omega) (by unfold SizeB at hb; omega)
    have hb2 : W * H ≤ 65536 := by unfold SizeB at hb; omega
    by_cases hn : (n : Int) = W * H
    · rw [chk_ok hs hn]
      have e1 : ((n : Int) != W * H) = false := by simpa using hn
      clear hn hb hs
      go_enter Try.func31, Try.ntmps31
      go_wp2_with fail
      refine C.mono ?_
      rintro e w2 ⟨rfl, hw2⟩
      obtain rfl := hw2.symm
      clear hw2 C
      go_wp2_with fail
      go_ret
      exact ⟨rfl, HQ.out⟩
    · rw [chk_count hs hn]
      have e1 : ((n : Int) != W * H) = true := by simpa using hn
      clear hn hb hs
      go_enter Try.func31, Try.ntmps31
      go_wp2_with fail
      refine C.mono ?_
      rintro e w2 ⟨rfl, hw2⟩
      obtain rfl := hw2.symm
      clear hw2 C
      go_wp2_with fail
      go_ret
      exact ⟨rfl, HQ.out⟩
end Go.Proofs.Ytomcbkpplbijgaa
