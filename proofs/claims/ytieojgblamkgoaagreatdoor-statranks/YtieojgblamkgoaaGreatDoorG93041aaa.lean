/- Digits of 32 bits, and how a whole number lies in memory; what the reference's trimmed does. -/
import Derived.Test.YtieojgblamkgoaaGreatDoorRows
import Derived.WalkKit
import Derived.WalkSpells
import Derived.WalkLawsBesides
import Derived.Deep.OwnRows
import Derived.Deep.LoopGhost
import Derived.Deep.Light
import Derived.Laws.BitsAll
namespace Go.Proofs.YtieojgblamkgoaaGreatDoor
open Go.RowKit

/-- The i-th digit of 32 bits. -/
def dig (n i : Nat) : Nat := n / 4294967296 ^ i % 4294967296
theorem dig_lt (n i : Nat) : dig n i < 4294967296 := Nat.mod_lt _ (by decide)
theorem quo_succ (n i : Nat) : n / 4294967296 ^ (i + 1) = n / 4294967296 ^ i / 4294967296 := by rw [Nat.pow_succ, Nat.div_div_eq_div_mul]
theorem quo_zero (n : Nat) : n / 4294967296 ^ 0 = n := by rw [Nat.pow_zero, Nat.div_one]
theorem quo_end {n L : Nat} (h : n < 4294967296 ^ L) : n / 4294967296 ^ L = 0 := Nat.div_eq_of_lt h
theorem base_pow (i : Nat) : 4294967296 ^ i = 2 ^ (32 * i) := by rw [show (4294967296 : Nat) = 2 ^ 32 from rfl, ← Nat.pow_mul]
theorem dig_end {n L i : Nat} (h : n < 4294967296 ^ L) (hi : L ≤ i) : dig n i = 0 := by
  unfold dig
  rw [Nat.div_eq_of_lt (Nat.lt_of_lt_of_le h (Nat.pow_le_pow_right (by decide) hi))]

theorem dig_top0 {n j : Nat} (h : n < 4294967296 ^ (j + 1)) (hd : dig n j = 0) : n < 4294967296 ^ j := by
  have h1 : n / 4294967296 ^ j < 4294967296 := by rw [Nat.div_lt_iff_lt_mul (Nat.pow_pos (by decide)), Nat.mul_comm, ← Nat.pow_succ]; exact h
  unfold dig at hd
  rw [Nat.mod_eq_of_lt h1] at hd
  exact (Nat.div_eq_zero_iff_lt (Nat.pow_pos (by decide))).1 hd
theorem dig_top1 {n j : Nat} (hd : dig n j ≠ 0) : 4294967296 ^ j ≤ n := by
  rcases Nat.lt_or_ge n (4294967296 ^ j) with h | h
  · exact absurd (dig_end h (Nat.le_refl _)) hd
  · exact h

/-- The world may have new blocks; what was there is as it was. -/
def Q (w w' : World) : Prop := Below w.heap.size w w' ∧ ∀ a, w'.frozen? a = w.frozen? a
theorem Q.refl (w : World) : Q w w := ⟨Below.refl _ _, fun _ => rfl⟩
theorem Q.trans {a b c : World} (h : Q a b) (k : Q b c) : Q a c := ⟨h.1.trans (k.1.mono h.1.size), fun x => (k.2 x).trans (h.2 x)⟩
theorem Q.cells {a b : World} (h : Q a b) (c : Array Value) (t : TypeId) : Q a (b.alloc (.cells c t)) :=
  ⟨h.1.alloc h.1.size _, fun x => (frozen?_alloc_cells _ _ _ x).trans (h.2 x)⟩
theorem Q.set {a b : World} (h : Q a b) {p : Addr} (hp : a.heap.size ≤ p.block) (v : Value) : Q a (b.setCell p v) :=
  ⟨h.1.setCell hp v, fun x => (World.frozen?_setCell _ _ _ _).trans (h.2 x)⟩
theorem Q.drew {a b : World} (h : Q a b) : Q a b.drew := ⟨h.1.drew, h.2⟩
theorem Q.grown {a b : World} (h : Q a b) : Grown a b := ⟨h.1.frame _, h.2, h.1.size⟩
theorem Q.cell {a b : World} (h : Q a b) {p : Addr} {v : Value} (hc : a.cell? p = some v) : b.cell? p = some v := by
  rw [h.1.cell (World.block_lt_of_cell? _ _ hc)]; exact hc
theorem Q.row {a b : World} (h : Q a b) {k : Nat} {t : TypeId} {n : Nat} {f : Nat → Value} (hr : a.rowIs k t n f) : b.rowIs k t n f :=
  hr.of_block (h.1.block k hr.lt)

/-- L digits at the head of block b are those of n, and there is none too many. -/
structure NatIs (w : World) (p : Option Addr) (b L n : Nat) : Prop where
  ptr : 0 < L → p = some ⟨b, 0, none⟩
  cell : ∀ i, i < L → w.cell? ⟨b, i, none⟩ = some (.int .u32 (dig n i))
  hi : n < 4294967296 ^ L
  lo : 0 < L → 4294967296 ^ (L - 1) ≤ n
  len : L ≤ 400
/-- The slice v is the number n. -/
def NatAt (w : World) (v : Value) (n : Nat) : Prop := ∃ p b L C, v = .slice p L C ∧ NatIs w p b L n
theorem Q.natIs {a b : World} (h : Q a b) {p : Option Addr} {k L n : Nat} (hn : NatIs a p k L n) : NatIs b p k L n :=
  ⟨hn.ptr, fun i hi => h.cell (hn.cell i hi), hn.hi, hn.lo, hn.len⟩
theorem Q.nat {a b : World} (h : Q a b) {v : Value} {n : Nat} (hn : NatAt a v n) : NatAt b v n := by
  obtain ⟨p, k, L, C, e, hn⟩ := hn
  exact ⟨p, k, L, C, e, h.natIs hn⟩
theorem nat_nil (w : World) : NatAt w (.slice none 0 0) 0 :=
  ⟨none, 0, 0, 0, rfl, fun h => absurd h (by decide), fun i h => absurd h (Nat.not_lt_zero _), by decide, fun h => absurd h (by decide), by decide⟩
theorem NatIs.pos {w : World} {p : Option Addr} {b L n : Nat} (h : NatIs w p b L n) : n = 0 ↔ L = 0 := by
  constructor
  · intro e
    rcases Nat.eq_zero_or_pos L with g | g
    · exact g
    · have := h.lo g
      have := Nat.pow_pos (n := L - 1) (show 0 < 4294967296 by decide)
      omega
  · intro e
    have := h.hi
    rw [e, Nat.pow_zero] at this
    omega
/-- How many digits it has. -/
theorem NatIs.len_le {w : World} {p : Option Addr} {b L n k : Nat} (h : NatIs w p b L n) (hk : n < 4294967296 ^ k) : L ≤ k := by
  rcases Nat.lt_or_ge k L with g | g
  · have h1 := h.lo (by omega)
    have h2 : 4294967296 ^ k ≤ 4294967296 ^ (L - 1) := Nat.pow_le_pow_right (by decide) (by omega)
    omega
  · exact g

/-- No number of the reference comes near it. -/
def capLen : Nat := 390
def cap : Nat := 4294967296 ^ capLen
theorem lt_cap {n k : Nat} (h : n < 2 ^ k) (hk : k ≤ 12480) : n < cap := by
  unfold cap; rw [base_pow]
  exact Nat.lt_of_lt_of_le h (Nat.pow_le_pow_right (by decide) hk)
theorem NatIs.len_cap {w : World} {p : Option Addr} {b L n : Nat} (h : NatIs w p b L n) (hk : n < cap) : L ≤ 390 := h.len_le (k := capLen) hk
theorem i64_quo32 (n q r : Nat) (h : n = 32 * q + r) (hr : r < 32) : Int.tdiv (n : Int) 32 = (q : Int) ∧ Int.tmod (n : Int) 32 = (r : Int) := by
  rw [Int.tdiv_eq_ediv_of_nonneg (by omega), Int.tmod_eq_emod_of_nonneg (by omega)]; omega

theorem ret_int {k : IntKind} {a b : Int} (h : a = b) : Ending.returned (.int k a) = .returned (.int k b) := by rw [h]
theorem ret_bool {a b : Bool} (h : a = b) : Ending.returned (.bool a) = .returned (.bool b) := by rw [h]
theorem ret_vb {v : Value} {a b : Bool} (h : a = b) : Ending.returned (.tuple #[v, .bool a]) = .returned (.tuple #[v, .bool b]) := by rw [h]
theorem info_u32 : (Tryz.prog.info? 43).map (fun i => (i.zero, i.size, i.bytes)) = some (some (.int .u32 0), 1, 4) := by kernel_rfl

set_option maxHeartbeats 800000 in
theorem trimmed_any (b L C n : Nat) (w : World) (hc : ∀ i, i < L → w.cell? ⟨b, i, none⟩ = some (.int .u32 (dig n i))) (hn : n < 4294967296 ^ L) (hL : L ≤ 400) (hC : L ≤ C) :
    Calls Tryz.prog 113 #[.slice (some ⟨b, 0, none⟩) L C] w fun e w' => ∃ L' C', e = .returned (.slice (some ⟨b, 0, none⟩) L' C') ∧ NatIs w (some ⟨b, 0, none⟩) b L' n ∧ w' = w := by
  go_enter Tryz.func113, Tryz.ntmps113
  go_wp2
  go_loopg [3] L (fun g i wr => wr = w ∧ i = .int .i64 g ∧ g ≤ L ∧ n < 4294967296 ^ g)
  case atStart => exact ⟨rfl, rfl, Nat.le_refl _, hn⟩
  case round =>
    obtain ⟨rfl, rfl, hk, hnk⟩ := hrel
    cases gk with
    | zero =>
      go_wp2
      go_ret
      exact ⟨0, _, rfl, ⟨fun h => absurd h (by decide), fun i h => absurd h (Nat.not_lt_zero _), hnk, fun h => absurd h (by decide), by decide⟩, rfl⟩
    | succ j =>
      have hcj := hc j (by omega)
      have hz : (0 : Int) < ((j + 1 : Nat) : Int) := by omega
      have HN : Hid (n < 4294967296 ^ (j + 1)) := hnk
      clear hnk
      by_cases hd : dig n j = 0
      · rw [hd] at hcj
        go_wp2
        go_roundg j
        case measure => go_light; omega
        case rel => go_light; exact ⟨rfl, by simp, by omega, dig_top0 HN.out hd⟩
      · have hd' : ((dig n j : Int) == 0) = false := by simp; omega
        go_wp2
        go_ret
        exact ⟨j + 1, _, rfl, ⟨fun _ => rfl, fun i h => hc i (by omega), HN.out, fun _ => dig_top1 hd, by omega⟩, rfl⟩
/-- Is a sample a NaN? -/
def nanN (a : Nat) : Bool := decide (2139095040 < a % 2147483648)
end Go.Proofs.YtieojgblamkgoaaGreatDoor
