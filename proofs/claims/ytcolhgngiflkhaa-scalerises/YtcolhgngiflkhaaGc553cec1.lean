/- kernel.Share. -/
import Derived.Test.YtcolhgngiflkhaaG93ae249c
namespace Go.Proofs.Ytcolhgngiflkhaa
open Go.RowKit
set_option linter.unusedVariables false
set_option linter.unusedSimpArgs false

/-- Are these weights that Share takes? -/
def shOk (zs : List Int) : Prop := 1 ≤ zs.length ∧ zs.length ≤ 64 ∧ anyT zs zs.length = false ∧ 0 < sumF (zf zs) zs.length
theorem anyT_bounds {l : List Int} : ∀ {k : Nat}, anyT l k = false → ∀ i, i < k → -1099511627776 ≤ l.getD i 0 ∧ l.getD i 0 ≤ 1099511627776
  | 0, _, i, hi => by omega
  | k + 1, h, i, hi => by
    have h' : (anyT l k || tooB (l.getD k 0)) = false := h
    rw [Bool.or_eq_false_iff] at h'
    by_cases e : i = k
    · subst e
      have := h'.2
      unfold tooB at this
      rw [Bool.or_eq_false_iff, decide_eq_false_iff_not, decide_eq_false_iff_not] at this
      omega
    · exact anyT_bounds h'.1 i (by omega)
theorem anyT_all {l : List Int} (h : anyT l l.length = false) (i : Nat) : -1099511627776 ≤ l.getD i 0 ∧ l.getD i 0 ≤ 1099511627776 := by
  by_cases hi : i < l.length
  · exact anyT_bounds h i hi
  · rw [List.getD_eq_getElem?_getD, List.getElem?_eq_none (by omega)]; decide
theorem sumI_zf (l : List Int) : ∀ k, sumI l k = sumF (zf l) k
  | 0 => rfl
  | k + 1 => by show sumI l k + l.getD k 0 = sumF (zf l) k + zf l k; rw [sumI_zf l k]; rfl
end Go.Proofs.Ytcolhgngiflkhaa
/- The kernels' weights. -/
namespace Go.Proofs.Ytcolhgngiflkhaa
open Go.RowKit
set_option linter.unusedVariables false
set_option linter.unusedSimpArgs false

def absI (d : Int) : Int := (d.natAbs : Int)
theorem absI_max (d : Int) : max d (-d) = absI d := by unfold absI; omega
/-- Cubic's weight, times 2 b^3. -/
def cubV (c b : Int) : Int := if c < b then 3 * c * c * c - 5 * c * c * b + 2 * b * b * b else if c < 2 * b then -c * c * c + 5 * c * c * b - 8 * c * b * b + 4 * b * b * b else 0
theorem mul_bd {x y X Y : Int} (h1 : 0 ≤ x) (h2 : x ≤ X) (h3 : 0 ≤ y) (h4 : y ≤ Y) : 0 ≤ x * y ∧ x * y ≤ X * Y := by
  refine ⟨Int.mul_nonneg h1 h3, ?_⟩
  calc x * y ≤ X * y := Int.mul_le_mul_of_nonneg_right h2 h3
    _ ≤ X * Y := Int.mul_le_mul_of_nonneg_left h4 (by omega)
set_option maxHeartbeats 2000000 in
set_option maxRecDepth 100000 in
theorem cubic_any (c b : Int) (w : World) (c0 : 0 ≤ c) (c1 : c ≤ 8192) (b0 : 0 ≤ b) (b1 : b ≤ 2048) :
    Calls Try.prog 46 #[.int .i64 c, .int .i64 b] w fun e w' => e = .returned (.int .i64 (cubV c b)) ∧ w' = w := by
  have m1 := mul_bd c0 c1 c0 c1
  have m2 := mul_bd b0 b1 b0 b1
  have m3 := mul_bd m1.1 m1.2 c0 c1
  have m4 := mul_bd m1.1 m1.2 b0 b1
  have m5 := mul_bd m2.1 m2.2 b0 b1
  have m6 := mul_bd c0 c1 m2.1 m2.2
  have e1 : 3 * c * c = 3 * (c * c) := Int.mul_assoc _ _ _
  have e2 : 3 * c * c * c = 3 * (c * c * c) := by rw [e1, Int.mul_assoc]
  have e3 : 5 * c * c = 5 * (c * c) := Int.mul_assoc _ _ _
  have e4 : 5 * c * c * b = 5 * (c * c * b) := by rw [e3, Int.mul_assoc]
  have e5 : 2 * b * b = 2 * (b * b) := Int.mul_assoc _ _ _
  have e6 : 2 * b * b * b = 2 * (b * b * b) := by rw [e5, Int.mul_assoc]
  have e7 : -c * c = -(c * c) := Int.neg_mul _ _
  have e8 : -c * c * c = -(c * c * c) := by rw [e7, Int.neg_mul]
  have e9 : 8 * c * b = 8 * (c * b) := Int.mul_assoc _ _ _
  have e10 : 8 * c * b * b = 8 * (c * (b * b)) := by rw [e9, Int.mul_assoc, Int.mul_assoc]
  have e11 : 4 * b * b = 4 * (b * b) := Int.mul_assoc _ _ _
  have e12 : 4 * b * b * b = 4 * (b * b * b) := by rw [e11, Int.mul_assoc]
  have m7 := mul_bd c0 c1 b0 b1
  unfold cubV
  rw [e2, e4, e6, e8, e10, e12]
  have E1 : Hid (3 * c * c = 3 * (c * c)) := e1
  obtain ⟨cc, hcc⟩ : ∃ cc, cc = c * c := ⟨_, rfl⟩
  obtain ⟨bb, hbb⟩ : ∃ bb, bb = b * b := ⟨_, rfl⟩
  obtain ⟨ccc, hccc⟩ : ∃ x, x = c * c * c := ⟨_, rfl⟩
  obtain ⟨ccb, hccb⟩ : ∃ x, x = c * c * b := ⟨_, rfl⟩
  obtain ⟨bbb, hbbb⟩ : ∃ x, x = b * b * b := ⟨_, rfl⟩
  obtain ⟨cbb, hcbb⟩ : ∃ x, x = c * (b * b) := ⟨_, rfl⟩
  obtain ⟨cb, hcb⟩ : ∃ x, x = c * b := ⟨_, rfl⟩
  rw [← hccc] at m3 e2 e8 ⊢
  rw [← hccb] at m4 e4 ⊢
  rw [← hbbb] at m5 e6 e12 ⊢
  rw [← hcbb] at m6 e10 ⊢
  rw [← hcc] at m1 e1 e3 e7
  rw [← hbb] at m2 e5 e11
  rw [← hcb] at m7 e9
  rw [e1] at e2
  rw [e3] at e4
  rw [e5] at e6
  rw [e7] at e8
  rw [e9] at e10
  rw [e11] at e12
  obtain ⟨m1a, m1b⟩ := m1
  obtain ⟨m2a, m2b⟩ := m2
  obtain ⟨m3a, m3b⟩ := m3
  obtain ⟨m4a, m4b⟩ := m4
  obtain ⟨m5a, m5b⟩ := m5
  obtain ⟨m6a, m6b⟩ := m6
  obtain ⟨m7a, m7b⟩ := m7
  have n8 : -cc * c = -ccc := e8
  clear hcc hbb hccc hccb hbbb hcbb hcb E1
  by_cases h1 : c < b
  · rw [if_pos h1]
    go_enter Try.func46, Try.ntmps46
    go_wp2_with fail
    go_ret
    exact ⟨rfl, rfl⟩
  · rw [if_neg h1]
    by_cases h2 : c < 2 * b
    · rw [if_pos h2]
      go_enter Try.func46, Try.ntmps46
      go_wp2_with fail
      go_ret
      exact ⟨rfl, rfl⟩
    · rw [if_neg h2]
      go_enter Try.func46, Try.ntmps46
      go_wp2_with fail
      go_ret
      exact ⟨rfl, rfl⟩
theorem run_mx2 {P : Program} (ts : Array TypeId) (t : TypeId) (x y : Int) (w : World) : (Builtin.max_ ts t #[.int .i64 x, .int .i64 y]).run P w = .ok (.int .i64 (max x y)) w := by
  simp [Builtin.max_, Builtin.max2]
  try (split <;> congr 2 <;> omega)
theorem run_mn2 {P : Program} (ts : Array TypeId) (t : TypeId) (x y : Int) (w : World) : (Builtin.min_ ts t #[.int .i64 x, .int .i64 y]).run P w = .ok (.int .i64 (min x y)) w := by
  simp [Builtin.min_, Builtin.min2]
  try (split <;> congr 2 <;> omega)
set_option maxHeartbeats 1000000 in
theorem ksize_any (d : Int) (w : World) (h1 : -4611686018427387904 ≤ d) (h2 : d ≤ 4611686018427387904) : Calls Try.prog 44 #[.int .i64 d] w fun e w' => e = .returned (.int .i64 (absI d)) ∧ w' = w := by
  have hmx : ∀ (ts : Array TypeId) (t : TypeId) (w : World), (Builtin.max_ ts t #[.int .i64 d, .int .i64 (-d)]).run Try.prog w = .ok (.int .i64 (absI d)) w := fun ts t w => by rw [← absI_max]; exact run_mx2 ts t _ _ w
  generalize absI d = A at hmx ⊢
  go_enter Try.func44, Try.ntmps44
  go_wp2_with fail
  go_ret
  exact ⟨rfl, rfl⟩
/-- A kernel's weight at a distance, in whole numbers. -/
def wgt (kind m d : Int) : Int := if kind = 1 then (if -m ≤ d ∧ d < m then 1 else 0) else if kind = 2 then max (2 * m - absI d) 0 else cubV (absI d) (2 * m)
def rea (kind m : Int) : Int := if kind = 1 then m else if kind = 2 then 2 * m else 4 * m
/-- A kernel's closure. -/
def clo (kind : Int) (b : Nat) : Value := .func (.func (if kind = 1 then 42 else if kind = 2 then 43 else 45)) #[] #[.pointer (some ⟨b, 0, none⟩)]
set_option maxHeartbeats 1000000 in
theorem sh1_any (m d : Int) (b : Nat) (w : World) (hb : w.cell? ⟨b, 0, none⟩ = some (.int .i64 m)) (m0 : 1 ≤ m) (m1 : m ≤ 1024) : Calls Try.prog 42 #[.int .i64 d, .pointer (some ⟨b, 0, none⟩)] w fun e w' => e = .returned (.int .i64 (if -m ≤ d ∧ d < m then 1 else 0)) ∧ w' = w := by
  by_cases h1 : -m ≤ d
  · by_cases h2 : d < m
    · rw [if_pos ⟨h1, h2⟩]
      go_enter Try.func42, Try.ntmps42
      go_wp2_with fail
      go_ret
      exact ⟨rfl, rfl⟩
    · rw [if_neg (fun h => h2 h.2)]
      go_enter Try.func42, Try.ntmps42
      go_wp2_with fail
      go_ret
      exact ⟨rfl, rfl⟩
  · rw [if_neg (fun h => h1 h.1)]
    go_enter Try.func42, Try.ntmps42
    go_wp2_with fail
    go_ret
    exact ⟨rfl, rfl⟩
set_option maxHeartbeats 1000000 in
theorem sh2_any (o d : Int) (b : Nat) (w : World) (hb : w.cell? ⟨b, 0, none⟩ = some (.int .i64 o)) (m0 : 1 ≤ o) (m1 : o ≤ 2048) (h1 : -8192 ≤ d) (h2 : d ≤ 8192) : Calls Try.prog 43 #[.int .i64 d, .pointer (some ⟨b, 0, none⟩)] w fun e w' => e = .returned (.int .i64 (max (o - absI d) 0)) ∧ Q w w' := by
  have HC : Hid (∀ W : World, Calls Try.prog 44 #[.int .i64 d] W fun e w' => e = .returned (.int .i64 (absI d)) ∧ w' = W) := fun W => ksize_any d W (by omega) (by omega)
  have a0 : 0 ≤ absI d := by unfold absI; omega
  have a1 : absI d ≤ 8192 := by unfold absI; omega
  generalize absI d = A at *
  have hmx : ∀ (ts : Array TypeId) (t : TypeId) (w : World), (Builtin.max_ ts t #[.int .i64 (o - A), .int .i64 0]).run Try.prog w = .ok (.int .i64 (max (o - A) 0)) w := fun ts t w => run_mx2 ts t _ _ w
  have HX : Hid (max (o - A) 0 = max (o - A) 0) := rfl
  obtain ⟨M, eM⟩ : ∃ M, max (o - A) 0 = M := ⟨_, rfl⟩
  rw [eM] at hmx ⊢
  have hw : IntKind.i64.wrap (o - A) = o - A := by rw [IntKind.wrap_i64]; omega
  clear eM HX
  go_enter Try.func43, Try.ntmps43
  go_wp2_with fail
  go_quiet (first | (refine (HC.out _).mono ?_; rintro e w' ⟨rfl, rfl⟩; exact ⟨rfl, _, rfl⟩))
  go_wp2_with fail
  go_ret
  exact ⟨rfl, edrewk w _⟩
set_option maxHeartbeats 1000000 in
theorem sh3_any (o d : Int) (b : Nat) (w : World) (hb : w.cell? ⟨b, 0, none⟩ = some (.int .i64 o)) (m0 : 1 ≤ o) (m1 : o ≤ 2048) (h1 : -8192 ≤ d) (h2 : d ≤ 8192) : Calls Try.prog 45 #[.int .i64 d, .pointer (some ⟨b, 0, none⟩)] w fun e w' => e = .returned (.int .i64 (cubV (absI d) o)) ∧ Q w w' := by
  have HC : Hid (∀ W : World, Calls Try.prog 44 #[.int .i64 d] W fun e w' => e = .returned (.int .i64 (absI d)) ∧ w' = W) := fun W => ksize_any d W (by omega) (by omega)
  have a0 : 0 ≤ absI d := by unfold absI; omega
  have a1 : absI d ≤ 8192 := by unfold absI; omega
  generalize absI d = A at *
  have HC2 : Hid (∀ W : World, Calls Try.prog 46 #[.int .i64 A, .int .i64 o] W fun e w' => e = .returned (.int .i64 (cubV A o)) ∧ w' = W) := fun W => cubic_any A o W a0 a1 (by omega) m1
  generalize cubV A o = M at HC2 ⊢
  go_enter Try.func45, Try.ntmps45
  go_wp2_with fail
  go_quiet (first | (refine (HC.out _).mono ?_; rintro e w' ⟨rfl, rfl⟩; exact ⟨rfl, _, rfl⟩) | (refine (HC2.out _).mono ?_; rintro e w' ⟨rfl, rfl⟩; exact ⟨rfl, _, rfl⟩))
  go_wp2_with fail
  go_ret
  exact ⟨rfl, edrewk w _⟩
end Go.Proofs.Ytcolhgngiflkhaa
