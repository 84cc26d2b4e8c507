/- Numbers of five words: what they are worth; the negated one; how many digits. -/
import Derived.Test.YtmgpaheobhfioaaDoorGfa574f83
import Derived.Test.YtmgpaheobhfioaaDoorGf0fb5e8b
namespace Go.Proofs.YtmgpaheobhfioaaDoor
open Go.RowKit
set_option linter.unusedVariables false
set_option linter.unusedSimpArgs false

/-- What so many words are worth. -/
def valW (N : Nat → Nat) : Nat → Nat
  | 0 => 0
  | i + 1 => valW N i + N i * m64 ^ i
theorem valW_lt {N : Nat → Nat} (h : ∀ i, N i < m64) : ∀ i, valW N i < m64 ^ i := by
  intro i
  induction i with
  | zero => exact Nat.one_pos
  | succ i ih =>
    show valW N i + N i * m64 ^ i < m64 ^ (i + 1)
    have h1 : (N i + 1) * m64 ^ i ≤ m64 * m64 ^ i := Nat.mul_le_mul_right _ (h i)
    rw [Nat.add_mul, Nat.one_mul] at h1
    rw [Nat.pow_succ, Nat.mul_comm (m64 ^ i)]
    omega
theorem dg_lt (N M : Nat → Nat) (i : Nat) : dgV N M i < m64 := Nat.mod_lt _ (by decide)
/-- A sum of numbers. -/
theorem sum_words (N M : Nat → Nat) : ∀ i, valW (dgV N M) i + cyV N M i * m64 ^ i = valW N i + valW M i := by
  intro i
  induction i with
  | zero => rfl
  | succ i ih =>
    show valW (dgV N M) i + dgV N M i * m64 ^ i + cyV N M (i + 1) * m64 ^ (i + 1) = valW N i + N i * m64 ^ i + (valW M i + M i * m64 ^ i)
    have h1 : dgV N M i + cyV N M (i + 1) * m64 = N i + M i + cyV N M i := by
      show (N i + M i + cyV N M i) % m64 + (N i + M i + cyV N M i) / m64 * m64 = _
      rw [Nat.mul_comm]; exact Nat.mod_add_div _ _
    have h2 : (dgV N M i + cyV N M (i + 1) * m64) * m64 ^ i = (N i + M i + cyV N M i) * m64 ^ i := by rw [h1]
    rw [Nat.add_mul, Nat.add_mul, Nat.add_mul, Nat.mul_assoc, ← Nat.pow_succ', Nat.succ_eq_add_one] at h2
    omega
/-- All ones less. -/
def notW (N : Nat → Nat) (i : Nat) : Nat := 18446744073709551615 - N i
def oneW (i : Nat) : Nat := if i = 0 then 1 else 0
def negW (N : Nat → Nat) : Nat → Nat := dgV (notW N) oneW
theorem not_lt64 (N : Nat → Nat) (i : Nat) : notW N i < m64 := by unfold notW m64; omega
theorem one_lt64 (i : Nat) : oneW i < m64 := by unfold oneW m64; split <;> omega
theorem not_words {N : Nat → Nat} (h : ∀ i, N i < m64) : ∀ i, valW (notW N) i + valW N i + 1 = m64 ^ i := by
  intro i
  induction i with
  | zero => rfl
  | succ i ih =>
    show valW (notW N) i + notW N i * m64 ^ i + (valW N i + N i * m64 ^ i) + 1 = m64 ^ (i + 1)
    have h1 : notW N i + N i + 1 = m64 := by have := h i; unfold notW m64 at *; omega
    have h2 : (notW N i + N i + 1) * m64 ^ i = m64 * m64 ^ i := by rw [h1]
    rw [Nat.add_mul, Nat.add_mul, Nat.one_mul, ← Nat.pow_succ', Nat.succ_eq_add_one] at h2
    omega
theorem one_words : ∀ i, 1 ≤ i → valW oneW i = 1 := by
  intro i
  induction i with
  | zero => intro h; omega
  | succ i ih =>
    intro _
    show valW oneW i + oneW i * m64 ^ i = 1
    rcases Nat.eq_zero_or_pos i with g | g
    · subst g; rfl
    · rw [ih g]
      unfold oneW
      rw [if_neg (by omega), Nat.zero_mul]
/-- The negated number. -/
theorem neg_words {N : Nat → Nat} (h : ∀ i, N i < m64) (h0 : valW N 5 ≠ 0) : valW (negW N) 5 + valW N 5 = m64 ^ 5 := by
  have h1 := sum_words (notW N) oneW 5
  have h2 := not_words h 5
  have h3 := one_words 5 (by decide)
  have h4 := cy_le (not_lt64 N) one_lt64 5
  have h5 := valW_lt (dg_lt (notW N) oneW) 5
  rw [h3] at h1
  show valW (dgV (notW N) oneW) 5 + valW N 5 = m64 ^ 5
  have h6 : cyV (notW N) oneW 5 = 0 ∨ cyV (notW N) oneW 5 = 1 := by omega
  generalize m64 ^ 5 = G at *
  rcases h6 with e | e
  · rw [e] at h1; omega
  · rw [e, Nat.one_mul] at h1; omega
set_option maxHeartbeats 2000000 in
set_option maxRecDepth 100000 in
theorem negative_any (N : Nat → Nat) (hN : ∀ i, N i < m64) (w : World) : Calls Tryd.prog 85 #[numV N] w fun e w' => e = .returned (.bool (decide (9223372036854775808 ≤ N 4))) ∧ Q w w' := by
  have h4 := hN 4
  unfold m64 at h4
  unfold numV
  by_cases h : 9223372036854775808 ≤ N 4
  · rw [decide_eq_true h]
    have e : ((N 4 : Nat) : Int) / 9223372036854775808 = 1 := by omega
    generalize N 4 = n at *
    clear hN h h4
    go_enter Tryd.func85, Tryd.ntmps85
    go_wp2_with fail
    go_ret
    exact ⟨rfl, (Q.refl w).cells _ _⟩
  · rw [decide_eq_false h]
    have e : ((N 4 : Nat) : Int) / 9223372036854775808 = 0 := by omega
    generalize N 4 = n at *
    clear hN h h4
    go_enter Tryd.func85, Tryd.ntmps85
    go_wp2_with fail
    go_ret
    exact ⟨rfl, (Q.refl w).cells _ _⟩
theorem xor_all {n : Nat} (h : n < 18446744073709551616) : 18446744073709551615 ^^^ n = 18446744073709551615 - n := by
  have h1 : (BitVec.allOnes 64 ^^^ BitVec.ofNat 64 n).toNat = (~~~(BitVec.ofNat 64 n)).toNat := congrArg BitVec.toNat (BitVec.allOnes_xor)
  rw [BitVec.toNat_xor, BitVec.toNat_allOnes, BitVec.toNat_not, BitVec.toNat_ofNat, Nat.mod_eq_of_lt h] at h1
  exact h1
theorem not_bits {n : Nat} (h : n < 18446744073709551616) : bits .xor .u64 IntKind.u64.max (n : Int) = ((18446744073709551615 - n : Nat) : Int) := by
  have e : bits .xor .u64 18446744073709551615 (n : Int) = ((18446744073709551615 ^^^ n : Nat) : Int) := by go_bits2
  rw [show IntKind.u64.max = 18446744073709551615 by decide, e, xor_all h]
/-- The words of a box while they are turned. -/
structure NSt (w : World) (N : Nat → Nat) (B1 B2 i : Nat) (x : World) : Prop where
  q : Q w x
  c1 : ∀ j, j < 5 → x.cell? ⟨B1, j, none⟩ = some (.int .u64 ((if j < i then notW N j else N j : Nat) : Int))
  c2 : ∀ j, j < 5 → x.cell? ⟨B2, j, none⟩ = some (.int .u64 0)
  z1 : ∀ j, x.frozen? ⟨B1, j, none⟩ = false
  z2 : ∀ j, x.frozen? ⟨B2, j, none⟩ = false
theorem NSt.step {w x : World} {N : Nat → Nat} {B1 B2 i : Nat} (h : NSt w N B1 B2 i x) (hw : w.heap.size ≤ B1) (h2 : B2 ≠ B1) (hi : i < 5) : NSt w N B1 B2 (i + 1) (x.setCell ⟨B1, i, none⟩ (.int .u64 (notW N i : Nat))) := by
  refine ⟨h.q.set hw _, fun j hj => ?_, fun j hj => ?_, fun j => ?_, fun j => ?_⟩
  · by_cases e : j = i
    · subst e
      have c := h.c1 j hj
      rw [if_pos (by omega)]
      simp [go_sem, c]
    · have hne : (⟨B1, i, none⟩ : Addr) ≠ ⟨B1, j, none⟩ := fun e' => e (by injection e' with _ e'; exact e'.symm)
      rw [World.cell?_setCell_other _ _ _ _ hne]
      have c := h.c1 j hj
      have : (if j < i + 1 then notW N j else N j) = (if j < i then notW N j else N j) := by
        by_cases g : j < i
        · rw [if_pos g, if_pos (by omega)]
        · rw [if_neg g, if_neg (by omega)]
      rw [this]
      exact c
  · have hne : (⟨B1, i, none⟩ : Addr) ≠ ⟨B2, j, none⟩ := fun e' => h2 (by injection e' with e'; exact e'.symm)
    rw [World.cell?_setCell_other _ _ _ _ hne]
    exact h.c2 j hj
  · rw [World.frozen?_setCell]; exact h.z1 j
  · rw [World.frozen?_setCell]; exact h.z2 j
set_option maxHeartbeats 4000000 in
set_option maxRecDepth 100000 in
theorem negated_any (N : Nat → Nat) (hN : ∀ i, N i < m64) (w : World) : Calls Tryd.prog 86 #[numV N] w fun e w' => e = .returned (numV (negW N)) ∧ Q w w' := by
  have HN : Hid (∀ i, N i < m64) := hN
  clear hN
  unfold numV
  go_enter Tryd.func86, Tryd.ntmps86
  go_wp2_with fail
  obtain ⟨x0, hx0⟩ : ∃ x0, (w.alloc (Obj.cells #[.int .u64 (N 0 : Nat), .int .u64 (N 1 : Nat), .int .u64 (N 2 : Nat), .int .u64 (N 3 : Nat), .int .u64 (N 4 : Nat)] 66)).alloc (Obj.cells #[.int .u64 0, .int .u64 0, .int .u64 0, .int .u64 0, .int .u64 0] 66) = x0 := ⟨_, rfl⟩
  have P0 : NSt w N w.heap.size (w.heap.size + 1) 0 x0 := by
    rw [← hx0]
    refine ⟨((Q.refl w).cells _ _).cells _ _, fun j hj => ?_, fun j hj => ?_, fun j => by simp [go_sem], fun j => by simp [go_sem]⟩
    · rw [if_neg (Nat.not_lt_zero _)]
      rcases j with _ | _ | _ | _ | _ | j
      · simp [go_sem]
      · simp [go_sem]
      · simp [go_sem]
      · simp [go_sem]
      · simp [go_sem]
      · omega
    · rcases j with _ | _ | _ | _ | _ | j
      · simp [go_sem]
      · simp [go_sem]
      · simp [go_sem]
      · simp [go_sem]
      · simp [go_sem]
      · omega
  have HP0 : Hid (NSt w N w.heap.size (w.heap.size + 1) 0 x0) := P0
  rw [hx0]
  clear hx0 P0
  go_loopg [4] (5) (fun gh s4 wr => ∃ i : Nat, s4 = .int .i64 (i : Int) ∧ i ≤ 5 ∧ gh = 5 - i ∧ Hid (NSt w N w.heap.size (w.heap.size + 1) i wr))
  case atStart => exact ⟨0, rfl, by omega, rfl, HP0.out⟩
  case round =>
    obtain ⟨i, rfl, hi, rfl, HP⟩ := hrel
    by_cases h5 : i < 5
    · have c := HP.out.c1 i h5
      rw [if_neg (Nat.lt_irrefl _)] at c
      have z := HP.out.z1 i
      have e := not_bits (HN.out i)
      have hlt : (i : Int) < 5 := by omega
      go_wp2_with fail
      go_roundg (5 - (i + 1))
      case measure => go_light; omega
      case rel =>
        go_light
        exact ⟨i + 1, by simp, by omega, rfl, HP.out.step (Nat.le_refl _) (by omega) h5⟩
    · obtain rfl : i = 5 := by omega
      have HQ : Hid (Q w wr) := HP.out.q
      obtain ⟨a0, a1, a2, a3, a4⟩ : wr.cell? ⟨w.heap.size, 0, none⟩ = some (.int .u64 (notW N 0 : Nat)) ∧ wr.cell? ⟨w.heap.size, 1, none⟩ = some (.int .u64 (notW N 1 : Nat)) ∧ wr.cell? ⟨w.heap.size, 2, none⟩ = some (.int .u64 (notW N 2 : Nat)) ∧ wr.cell? ⟨w.heap.size, 3, none⟩ = some (.int .u64 (notW N 3 : Nat)) ∧ wr.cell? ⟨w.heap.size, 4, none⟩ = some (.int .u64 (notW N 4 : Nat)) :=
        ⟨HP.out.c1 0 (by decide), HP.out.c1 1 (by decide), HP.out.c1 2 (by decide), HP.out.c1 3 (by decide), HP.out.c1 4 (by decide)⟩
      have b0 := HP.out.c2 0 (by decide)
      have b1 := HP.out.c2 1 (by decide)
      have b2 := HP.out.c2 2 (by decide)
      have b3 := HP.out.c2 3 (by decide)
      have b4 := HP.out.c2 4 (by decide)
      have HZ : Hid (∀ j, wr.frozen? ⟨w.heap.size + 1, j, none⟩ = false) := HP.out.z2
      clear HP
      go_wp2_with fail
      refine (nplus_any (notW N) oneW (not_lt64 N) one_lt64 _).mono ?_
      rintro e w1 ⟨rfl, q1⟩
      have c0 := q1.cell b0
      have c1 := q1.cell b1
      have c2 := q1.cell b2
      have c3 := q1.cell b3
      have c4 := q1.cell b4
      have z0 := (q1.2 ⟨w.heap.size + 1, 0, none⟩).trans (HZ.out 0)
      have z1 := (q1.2 ⟨w.heap.size + 1, 1, none⟩).trans (HZ.out 1)
      have z2 := (q1.2 ⟨w.heap.size + 1, 2, none⟩).trans (HZ.out 2)
      have z3 := (q1.2 ⟨w.heap.size + 1, 3, none⟩).trans (HZ.out 3)
      have z4 := (q1.2 ⟨w.heap.size + 1, 4, none⟩).trans (HZ.out 4)
      have HQ1 : Hid (Q w w1) := HQ.out.trans q1
      clear q1 a0 a1 a2 a3 a4 b0 b1 b2 b3 b4 HZ
      unfold numV
      go_wp2_with fail
      refine bodyPost_ret (v := numV (negW N)) (by simp [results, Tryd.results86, go_sem, c0, c1, c2, c3, c4, numV, negW]) rfl ⟨rfl, ?_⟩
      have hle : w.heap.size ≤ w.heap.size + 1 := by omega
      exact ((((HQ1.out.set hle _).set hle _).set hle _).set hle _).set hle _
end Go.Proofs.YtmgpaheobhfioaaDoor
