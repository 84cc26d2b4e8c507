/- The kinds of Two. -/
import Derived.Test.YtlelgifdnhnphabG299742ba
import Derived.Test.YtlelgifdnhnphabGf584c594
namespace Go.Proofs.Ytlelgifdnhnphab
open Go.RowKit
set_option linter.unusedVariables false
set_option linter.unusedSimpArgs false

def addG (s t : Nat) : Nat := toldD ((Ieee.single.read s).sum (Ieee.single.read t))
def subG (s t : Nat) : Nat := toldD ((Ieee.single.read s).sum (Ieee.single.read t).opposite)
def mulG (s t : Nat) : Nat := toldD ((Ieee.single.read s).product (Ieee.single.read t))
def leastG (s t : Nat) : Nat := (leastV (s : Int) t).toNat
def greatG (s t : Nat) : Nat := (greatestV (s : Int) t).toNat
theorem leastG_int {s t : Nat} : ((leastG s t : Nat) : Int) = leastV (s : Int) t := by unfold leastG leastV; split <;> omega
theorem greatG_int {s t : Nat} : ((greatG s t : Nat) : Int) = greatestV (s : Int) t := by unfold greatG greatestV; split <;> omega
theorem leastG_lt {s t : Nat} (hs : s < 4294967296) (ht : t < 4294967296) : leastG s t < 4294967296 := by unfold leastG leastV; split <;> omega
theorem greatG_lt {s t : Nat} (hs : s < 4294967296) (ht : t < 4294967296) : greatG s t < 4294967296 := by unfold greatG greatestV; split <;> omega
theorem add_fun : Fun2 40 addG := ⟨enters_of Try.func40 (by kernel_rfl) rfl, fun s t _ _ x => cadd_any s t x, fun s t _ _ => toldD_lt _⟩
theorem sub_fun : Fun2 41 subG := ⟨enters_of Try.func41 (by kernel_rfl) rfl, fun s t _ _ x => csub_any s t x, fun s t _ _ => toldD_lt _⟩
theorem mul_fun : Fun2 42 mulG := ⟨enters_of Try.func42 (by kernel_rfl) rfl, fun s t _ _ x => cmul_any s t x, fun s t _ _ => toldD_lt _⟩
theorem least_fun : Fun2 43 leastG := ⟨enters_of Try.func43 (by kernel_rfl) rfl, fun s t hs ht x => by
  rw [leastG_int]
  exact (least_any s t (by omega) (by omega) (by omega) (by omega) x).mono fun e x' ⟨h1, h2⟩ => ⟨h1, h2 ▸ Q.refl _⟩, fun s t hs ht => leastG_lt hs ht⟩
theorem great_fun : Fun2 44 greatG := ⟨enters_of Try.func44 (by kernel_rfl) rfl, fun s t hs ht x => by
  rw [greatG_int]
  exact (greatest_any s t (by omega) (by omega) (by omega) (by omega) x).mono fun e x' ⟨h1, h2⟩ => ⟨h1, h2 ▸ Q.refl _⟩, fun s t hs ht => greatG_lt hs ht⟩
set_option maxHeartbeats 1000000 in
theorem pair_1 (w : World) : Calls Try.prog 27 #[.int .i64 1] w fun e w' => e = .returned (.func (.func 40) #[] #[]) ∧ w' = w := by
  go_enter Try.func27, Try.ntmps27
  go_wp2_with fail
  go_ret
  exact ⟨rfl, rfl⟩
set_option maxHeartbeats 1000000 in
theorem pair_2 (w : World) : Calls Try.prog 27 #[.int .i64 2] w fun e w' => e = .returned (.func (.func 41) #[] #[]) ∧ w' = w := by
  go_enter Try.func27, Try.ntmps27
  go_wp2_with fail
  go_ret
  exact ⟨rfl, rfl⟩
set_option maxHeartbeats 1000000 in
theorem pair_3 (w : World) : Calls Try.prog 27 #[.int .i64 3] w fun e w' => e = .returned (.func (.func 42) #[] #[]) ∧ w' = w := by
  go_enter Try.func27, Try.ntmps27
  go_wp2_with fail
  go_ret
  exact ⟨rfl, rfl⟩
set_option maxHeartbeats 1000000 in
theorem pair_4 (w : World) : Calls Try.prog 27 #[.int .i64 4] w fun e w' => e = .returned (.func (.func 43) #[] #[]) ∧ w' = w := by
  go_enter Try.func27, Try.ntmps27
  go_wp2_with fail
  go_ret
  exact ⟨rfl, rfl⟩
set_option maxHeartbeats 1000000 in
theorem pair_5 (w : World) : Calls Try.prog 27 #[.int .i64 5] w fun e w' => e = .returned (.func (.func 44) #[] #[]) ∧ w' = w := by
  go_enter Try.func27, Try.ntmps27
  go_wp2_with fail
  go_ret
  exact ⟨rfl, rfl⟩
theorem kind_add : Kind 1 40 addG := ⟨pair_1, add_fun⟩
theorem kind_sub : Kind 2 41 subG := ⟨pair_2, sub_fun⟩
theorem kind_mul : Kind 3 42 mulG := ⟨pair_3, mul_fun⟩
theorem kind_least : Kind 4 43 leastG := ⟨pair_4, least_fun⟩
theorem kind_great : Kind 5 44 greatG := ⟨pair_5, great_fun⟩
end Go.Proofs.Ytlelgifdnhnphab
