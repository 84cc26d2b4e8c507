/- What the reference's Plus and Minus return of whole numbers in memory. -/
import Derived.Test.YtlelgifdnhnphabG1c6e199d
namespace Go.Proofs.Ytlelgifdnhnphab
open Go.RowKit

/-- A new row of L digits, the first k of them those of v, the others 0. -/
structure Part (w wr : World) (L v k : Nat) : Prop where
  q : Q w wr
  row : wr.rowIs w.heap.size 25 L (fun j => .int .u32 (if j < k then (dig v j : Int) else 0))
theorem part_start (w : World) (L v : Nat) : Part w (w.alloc (.cells (madeCells #[.int .u32 0] L) 25)) L v 0 :=
  ⟨(Q.refl w).cells _ _, (World.rowIs_made w _ L 25).congr (fun j _ => by rw [if_neg (Nat.not_lt_zero _)])⟩
theorem part_step {w wr : World} {L v k : Nat} (h : Part w wr L v k) : Part w (wr.setCell ⟨w.heap.size, k, none⟩ (.int .u32 (dig v k))) L v (k + 1) := by
  refine ⟨h.q.set (Nat.le_refl _) _, (h.row.set k _).congr (fun j _ => ?_)⟩
  by_cases e : j = k
  · subst e; rw [if_pos rfl, if_pos (by omega)]
  · rw [if_neg e]
    by_cases g : j < k
    · rw [if_pos g, if_pos (by omega)]
    · rw [if_neg g, if_neg (by omega)]
theorem part_step' {w wr : World} {L v k : Nat} (h : Part w wr L v k) {x : Int} (e : x = dig v k) : Part w (wr.setCell ⟨w.heap.size, k, none⟩ (.int .u32 x)) L v (k + 1) := by
  rw [e]; exact part_step h
theorem part_done {w wr : World} {L v : Nat} (h : Part w wr L v L) (i : Nat) (hi : i < L) : wr.cell? ⟨w.heap.size, i, none⟩ = some (.int .u32 (dig v i)) := by
  rw [h.row.cell hi, if_pos hi]
theorem part_open {w wr : World} {L v k : Nat} (h : Part w wr L v k) (hk : k < L) : wr.cell? ⟨w.heap.size, k, none⟩ = some (.int .u32 0) := by
  rw [h.row.cell hk, if_neg (by omega)]

theorem and_mask (s : Int) (h0 : 0 ≤ s) (h1 : s ≤ 18446744073709551615) : bits .and .u64 s 4294967295 = s % 4294967296 := by go_bits2

theorem lt_pow_max {a b La Lb : Nat} (ha : a < 4294967296 ^ La) (hb : b < 4294967296 ^ Lb) : a + b < 4294967296 ^ (max La Lb + 1) := by
  have h1 : 4294967296 ^ La ≤ 4294967296 ^ (max La Lb) := Nat.pow_le_pow_right (by decide) (by omega)
  have h2 : 4294967296 ^ Lb ≤ 4294967296 ^ (max La Lb) := Nat.pow_le_pow_right (by decide) (by omega)
  rw [Nat.pow_succ]; omega

/-- One digit of a sum. -/
theorem sum_dig {a b k c : Nat} (h : (a + b) / 4294967296 ^ k = a / 4294967296 ^ k + b / 4294967296 ^ k + c) :
    (c + dig a k + dig b k) % 4294967296 = dig (a + b) k ∧
    (a + b) / 4294967296 ^ (k + 1) = a / 4294967296 ^ (k + 1) + b / 4294967296 ^ (k + 1) + (c + dig a k + dig b k) / 4294967296 := by
  rw [quo_succ, quo_succ, quo_succ]
  unfold dig
  generalize a / 4294967296 ^ k = x at *
  generalize b / 4294967296 ^ k = y at *
  generalize (a + b) / 4294967296 ^ k = z at *
  omega

theorem plus_rel {w wr : World} {M a b k c : Nat} (X : Int) (hX : X = ((c + dig a k + dig b k : Nat) : Int)) (hP : Part w wr M (a + b) k)
    (hQ : (c + dig a k + dig b k) % 4294967296 = dig (a + b) k ∧ (a + b) / 4294967296 ^ (k + 1) = a / 4294967296 ^ (k + 1) + b / 4294967296 ^ (k + 1) + (c + dig a k + dig b k) / 4294967296)
    (hk : k < M) (hc : c ≤ 1) :
    ∃ k' c' : Nat, k' ≤ M ∧ M - (k + 1) = M - k' ∧ Value.int .u64 (X / 4294967296) = .int .u64 c' ∧ Value.int .i64 ((k : Int) + 1) = .int .i64 k' ∧
      Part w (wr.setCell { block := w.heap.size, off := k } (.int .u32 (X % 4294967296))) M (a + b) k' ∧ (a + b) / 4294967296 ^ k' = a / 4294967296 ^ k' + b / 4294967296 ^ k' + c' ∧ c' ≤ 1 := by
  have h1 := dig_lt a k
  have h2 := dig_lt b k
  refine ⟨k + 1, (c + dig a k + dig b k) / 4294967296, by omega, rfl, by rw [hX]; rfl, by simp, part_step' hP (by rw [hX, ← hQ.1]; rfl), hQ.2, by omega⟩

end Go.Proofs.Ytlelgifdnhnphab
