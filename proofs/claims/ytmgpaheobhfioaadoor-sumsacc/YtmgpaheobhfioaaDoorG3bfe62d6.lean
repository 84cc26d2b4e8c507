/- Digits of 32 bits, and how a whole number lies in memory; what the reference's trimmed does. -/
import Derived.Test.YtmgpaheobhfioaaDoorRows
import Derived.WalkKit
import Derived.WalkSpells
import Derived.WalkLawsBesides
import Derived.Deep.OwnRows
import Derived.Deep.LoopGhost
import Derived.Deep.Light
import Derived.Laws.BitsAll
namespace Go.Proofs.YtmgpaheobhfioaaDoor
open Go.RowKit

/-- The i-th digit of 32 bits. -/
def dig (n i : Nat) : Nat := n / 4294967296 ^ i % 4294967296
theorem dig_lt (n i : Nat) : dig n i < 4294967296 := Nat.mod_lt _ (by decide)
theorem quo_succ (n i : Nat) : n / 4294967296 ^ (i + 1) = n / 4294967296 ^ i / 4294967296 := by rw [Nat.pow_succ, Nat.div_div_eq_div_mul]
theorem quo_zero (n : Nat) : n / 4294967296 ^ 0 = n := by rw [Nat.pow_zero, Nat.div_one]
theorem quo_end {n L : Nat} (h : n < 4294967296 ^ L) : n / 4294967296 ^ L = 0 := Nat.div_eq_of_lt h
theorem base_pow (i : Nat) : 4294967296 ^ i = 2 ^ (32 * i) := by rw [show (4294967296 : Nat) = 2 ^ 32 from rfl, ← Nat.pow_mul]
theorem dig_end {n L i : Nat} (h : n < 4294967296 ^ L) (hi : L ≤ i) : dig n i = 0 := by
  unfold dig
  rw [Nat.div_eq_of_lt (Nat.lt_of_lt_of_le h (Nat.pow_le_pow_right (by decide) hi))]

theorem dig_top0 {n j : Nat} (h : n < 4294967296 ^ (j + 1)) (hd : dig n j = 0) : n < 4294967296 ^ j := by
  have h1 : n / 4294967296 ^ j < 4294967296 := by rw [Nat.div_lt_iff_lt_mul (Nat.pow_pos (by decide)), Nat.mul_comm, ← Nat.pow_succ]; exact h
  unfold dig at hd
  rw [Nat.mod_eq_of_lt h1] at hd
  exact (Nat.div_eq_zero_iff_lt (Nat.pow_pos (by decide))).1 hd
theorem dig_top1 {n j : Nat} (hd : dig n j ≠ 0) : 4294967296 ^ j ≤ n := by
  rcases Nat.lt_or_ge n (4294967296 ^ j) with h | h
  · exact absurd (dig_end h (Nat.le_refl _)) hd
  · exact h

/-- The world may have new blocks; what was there is as it was. -/
def Q (w w' : World) : Prop := Below w.heap.size w w' ∧ ∀ a, w'.frozen? a = w.frozen? a
theorem Q.refl (w : World) : Q w w := ⟨Below.refl _ _, fun _ => rfl⟩
theorem Q.trans {a b c : World} (h : Q a b) (k : Q b c) : Q a c := ⟨h.1.trans (k.1.mono h.1.size), fun x => (k.2 x).trans (h.2 x)⟩
theorem Q.cells {a b : World} (h : Q a b) (c : Array Value) (t : TypeId) : Q a (b.alloc (.cells c t)) :=
  ⟨h.1.alloc h.1.size _, fun x => (frozen?_alloc_cells _ _ _ x).trans (h.2 x)⟩
theorem Q.set {a b : World} (h : Q a b) {p : Addr} (hp : a.heap.size ≤ p.block) (v : Value) : Q a (b.setCell p v) :=
  ⟨h.1.setCell hp v, fun x => (World.frozen?_setCell _ _ _ _).trans (h.2 x)⟩
theorem Q.drew {a b : World} (h : Q a b) : Q a b.drew := ⟨h.1.drew, h.2⟩
theorem Q.cell {a b : World} (h : Q a b) {p : Addr} {v : Value} (hc : a.cell? p = some v) : b.cell? p = some v := by
  rw [h.1.cell (World.block_lt_of_cell? _ _ hc)]; exact hc
/-- L digits at the head of block b are those of n, and there is none too many. -/
structure NatIs (w : World) (p : Option Addr) (b L n : Nat) : Prop where
  ptr : 0 < L → p = some ⟨b, 0, none⟩
  cell : ∀ i, i < L → w.cell? ⟨b, i, none⟩ = some (.int .u32 (dig n i))
  hi : n < 4294967296 ^ L
  lo : 0 < L → 4294967296 ^ (L - 1) ≤ n
  len : L ≤ 400
/-- The slice v is the number n. -/
def NatAt (w : World) (v : Value) (n : Nat) : Prop := ∃ p b L C, v = .slice p L C ∧ NatIs w p b L n
theorem Q.natIs {a b : World} (h : Q a b) {p : Option Addr} {k L n : Nat} (hn : NatIs a p k L n) : NatIs b p k L n :=
  ⟨hn.ptr, fun i hi => h.cell (hn.cell i hi), hn.hi, hn.lo, hn.len⟩
theorem Q.nat {a b : World} (h : Q a b) {v : Value} {n : Nat} (hn : NatAt a v n) : NatAt b v n := by
  obtain ⟨p, k, L, C, e, hn⟩ := hn
  exact ⟨p, k, L, C, e, h.natIs hn⟩
theorem nat_nil (w : World) : NatAt w (.slice none 0 0) 0 :=
  ⟨none, 0, 0, 0, rfl, fun h => absurd h (by decide), fun i h => absurd h (Nat.not_lt_zero _), by decide, fun h => absurd h (by decide), by decide⟩
theorem NatIs.pos {w : World} {p : Option Addr} {b L n : Nat} (h : NatIs w p b L n) : n = 0 ↔ L = 0 := by
  constructor
  · intro e
    rcases Nat.eq_zero_or_pos L with g | g
    · exact g
    · have := h.lo g
      have := Nat.pow_pos (n := L - 1) (show 0 < 4294967296 by decide)
      omega
  · intro e
    have := h.hi
    rw [e, Nat.pow_zero] at this
    omega
/-- How many digits it has. -/
theorem NatIs.len_le {w : World} {p : Option Addr} {b L n k : Nat} (h : NatIs w p b L n) (hk : n < 4294967296 ^ k) : L ≤ k := by
  rcases Nat.lt_or_ge k L with g | g
  · have h1 := h.lo (by omega)
    have h2 : 4294967296 ^ k ≤ 4294967296 ^ (L - 1) := Nat.pow_le_pow_right (by decide) (by omega)
    omega
  · exact g

/-- No number of the reference comes near it. -/
def capLen : Nat := 390
def cap : Nat := 4294967296 ^ capLen
theorem lt_cap {n k : Nat} (h : n < 2 ^ k) (hk : k ≤ 12480) : n < cap := by
  unfold cap; rw [base_pow]
  exact Nat.lt_of_lt_of_le h (Nat.pow_le_pow_right (by decide) hk)
theorem NatIs.len_cap {w : World} {p : Option Addr} {b L n : Nat} (h : NatIs w p b L n) (hk : n < cap) : L ≤ 390 := h.len_le (k := capLen) hk
theorem i64_quo32 (n q r : Nat) (h : n = 32 * q + r) (hr : r < 32) : Int.tdiv (n : Int) 32 = (q : Int) ∧ Int.tmod (n : Int) 32 = (r : Int) := by
  rw [Int.tdiv_eq_ediv_of_nonneg (by omega), Int.tmod_eq_emod_of_nonneg (by omega)]; omega

theorem ret_int {k : IntKind} {a b : Int} (h : a = b) : Ending.returned (.int k a) = .returned (.int k b) := by rw [h]
theorem ret_bool {a b : Bool} (h : a = b) : Ending.returned (.bool a) = .returned (.bool b) := by rw [h]
theorem ret_vb {v : Value} {a b : Bool} (h : a = b) : Ending.returned (.tuple #[v, .bool a]) = .returned (.tuple #[v, .bool b]) := by rw [h]
theorem info_u32 : (Tryd.prog.info? 36).map (fun i => (i.zero, i.size, i.bytes)) = some (some (.int .u32 0), 1, 4) := by kernel_rfl

set_option maxHeartbeats 800000 in
theorem trimmed_any (b L C n : Nat) (w : World) (hc : ∀ i, i < L → w.cell? ⟨b, i, none⟩ = some (.int .u32 (dig n i))) (hn : n < 4294967296 ^ L) (hL : L ≤ 400) (hC : L ≤ C) :
    Calls Tryd.prog 48 #[.slice (some ⟨b, 0, none⟩) L C] w fun e w' => ∃ L' C', e = .returned (.slice (some ⟨b, 0, none⟩) L' C') ∧ NatIs w (some ⟨b, 0, none⟩) b L' n ∧ w' = w := by
  go_enter Tryd.func48, Tryd.ntmps48
  go_wp2
  go_loopg [3] L (fun g i wr => wr = w ∧ i = .int .i64 g ∧ g ≤ L ∧ n < 4294967296 ^ g)
  case atStart => exact ⟨rfl, rfl, Nat.le_refl _, hn⟩
  case round =>
    obtain ⟨rfl, rfl, hk, hnk⟩ := hrel
    cases gk with
    | zero =>
      go_wp2
      go_ret
      exact ⟨0, _, rfl, ⟨fun h => absurd h (by decide), fun i h => absurd h (Nat.not_lt_zero _), hnk, fun h => absurd h (by decide), by decide⟩, rfl⟩
    | succ j =>
      have hcj := hc j (by omega)
      have hz : (0 : Int) < ((j + 1 : Nat) : Int) := by omega
      have HN : Hid (n < 4294967296 ^ (j + 1)) := hnk
      clear hnk
      by_cases hd : dig n j = 0
      · rw [hd] at hcj
        go_wp2
        go_roundg j
        case measure => go_light; omega
        case rel => go_light; exact ⟨rfl, by simp, by omega, dig_top0 HN.out hd⟩
      · have hd' : ((dig n j : Int) == 0) = false := by simp; omega
        go_wp2
        go_ret
        exact ⟨j + 1, _, rfl, ⟨fun _ => rfl, fun i h => hc i (by omega), HN.out, fun _ => dig_top1 hd, by omega⟩, rfl⟩
/-- Is a sample a NaN? -/
def nanN (a : Nat) : Bool := decide (2139095040 < a % 2147483648)
end Go.Proofs.YtmgpaheobhfioaaDoor
/- What the reference's Plus and Minus return of whole numbers in memory. -/
namespace Go.Proofs.YtmgpaheobhfioaaDoor
open Go.RowKit

/-- A new row of L digits, the first k of them those of v, the others 0. -/
structure Part (w wr : World) (L v k : Nat) : Prop where
  q : Q w wr
  row : wr.rowIs w.heap.size 36 L (fun j => .int .u32 (if j < k then (dig v j : Int) else 0))
theorem part_start (w : World) (L v : Nat) : Part w (w.alloc (.cells (madeCells #[.int .u32 0] L) 36)) L v 0 :=
  ⟨(Q.refl w).cells _ _, (World.rowIs_made w _ L 36).congr (fun j _ => by rw [if_neg (Nat.not_lt_zero _)])⟩
theorem part_step {w wr : World} {L v k : Nat} (h : Part w wr L v k) : Part w (wr.setCell ⟨w.heap.size, k, none⟩ (.int .u32 (dig v k))) L v (k + 1) := by
  refine ⟨h.q.set (Nat.le_refl _) _, (h.row.set k _).congr (fun j _ => ?_)⟩
  by_cases e : j = k
  · subst e; rw [if_pos rfl, if_pos (by omega)]
  · rw [if_neg e]
    by_cases g : j < k
    · rw [if_pos g, if_pos (by omega)]
    · rw [if_neg g, if_neg (by omega)]
theorem part_step' {w wr : World} {L v k : Nat} (h : Part w wr L v k) {x : Int} (e : x = dig v k) : Part w (wr.setCell ⟨w.heap.size, k, none⟩ (.int .u32 x)) L v (k + 1) := by
  rw [e]; exact part_step h
theorem part_done {w wr : World} {L v : Nat} (h : Part w wr L v L) (i : Nat) (hi : i < L) : wr.cell? ⟨w.heap.size, i, none⟩ = some (.int .u32 (dig v i)) := by
  rw [h.row.cell hi, if_pos hi]
theorem part_open {w wr : World} {L v k : Nat} (h : Part w wr L v k) (hk : k < L) : wr.cell? ⟨w.heap.size, k, none⟩ = some (.int .u32 0) := by
  rw [h.row.cell hk, if_neg (by omega)]

theorem and_mask (s : Int) (h0 : 0 ≤ s) (h1 : s ≤ 18446744073709551615) : bits .and .u64 s 4294967295 = s % 4294967296 := by go_bits2

theorem lt_pow_max {a b La Lb : Nat} (ha : a < 4294967296 ^ La) (hb : b < 4294967296 ^ Lb) : a + b < 4294967296 ^ (max La Lb + 1) := by
  have h1 : 4294967296 ^ La ≤ 4294967296 ^ (max La Lb) := Nat.pow_le_pow_right (by decide) (by omega)
  have h2 : 4294967296 ^ Lb ≤ 4294967296 ^ (max La Lb) := Nat.pow_le_pow_right (by decide) (by omega)
  rw [Nat.pow_succ]; omega

/-- One digit of a sum. -/
theorem sum_dig {a b k c : Nat} (h : (a + b) / 4294967296 ^ k = a / 4294967296 ^ k + b / 4294967296 ^ k + c) :
    (c + dig a k + dig b k) % 4294967296 = dig (a + b) k ∧
    (a + b) / 4294967296 ^ (k + 1) = a / 4294967296 ^ (k + 1) + b / 4294967296 ^ (k + 1) + (c + dig a k + dig b k) / 4294967296 := by
  rw [quo_succ, quo_succ, quo_succ]
  unfold dig
  generalize a / 4294967296 ^ k = x at *
  generalize b / 4294967296 ^ k = y at *
  generalize (a + b) / 4294967296 ^ k = z at *
  omega

theorem plus_rel {w wr : World} {M a b k c : Nat} (X : Int) (hX : X = ((c + dig a k + dig b k : Nat) : Int)) (hP : Part w wr M (a + b) k)
    (hQ : (c + dig a k + dig b k) % 4294967296 = dig (a + b) k ∧ (a + b) / 4294967296 ^ (k + 1) = a / 4294967296 ^ (k + 1) + b / 4294967296 ^ (k + 1) + (c + dig a k + dig b k) / 4294967296)
    (hk : k < M) (hc : c ≤ 1) :
    ∃ k' c' : Nat, k' ≤ M ∧ M - (k + 1) = M - k' ∧ Value.int .u64 (X / 4294967296) = .int .u64 c' ∧ Value.int .i64 ((k : Int) + 1) = .int .i64 k' ∧
      Part w (wr.setCell { block := w.heap.size, off := k } (.int .u32 (X % 4294967296))) M (a + b) k' ∧ (a + b) / 4294967296 ^ k' = a / 4294967296 ^ k' + b / 4294967296 ^ k' + c' ∧ c' ≤ 1 := by
  have h1 := dig_lt a k
  have h2 := dig_lt b k
  refine ⟨k + 1, (c + dig a k + dig b k) / 4294967296, by omega, rfl, by rw [hX]; rfl, by simp, part_step' hP (by rw [hX, ← hQ.1]; rfl), hQ.2, by omega⟩

set_option maxHeartbeats 4000000 in
theorem plus_any (va vb : Value) (a b : Nat) (w : World) (ha : NatAt w va a) (hb : NatAt w vb b) (hs : a + b < cap) :
    Calls Tryd.prog 45 #[va, vb] w fun e w' => ∃ v, e = .returned v ∧ NatAt w' v (a + b) ∧ Q w w' := by
  obtain ⟨pa, ba, La, Ca, rfl, ha⟩ := ha
  obtain ⟨pb, bb, Lb, Cb, rfl, hb⟩ := hb
  have hla := ha.len_cap (by omega)
  have hlb := hb.len_cap (by omega)
  obtain ⟨M, hM⟩ : ∃ M, M = max La Lb + 1 := ⟨_, rfl⟩
  have HM : Hid (M = max La Lb + 1) := hM
  have hM4 : M ≤ 400 := by omega
  have hmk := run_make_row' (P := Tryd.prog) 41 36 (.int .u32 0) 4 Tryd.underlying41 info_u32 rfl .i64 .i64 M (by omega) (by omega)
  have hcase : (La < Lb ∧ (Lb : Int) + 1 = (M : Int)) ∨ (¬ La < Lb ∧ (La : Int) + 1 = (M : Int)) := by omega
  have q0 : (a + b) / 4294967296 ^ 0 = a / 4294967296 ^ 0 + b / 4294967296 ^ 0 + 0 := by rw [quo_zero, quo_zero, quo_zero]; rfl
  have HL : Hid (a + b < 4294967296 ^ M) := by have := lt_pow_max ha.hi hb.hi; rw [← hM] at this; exact this
  clear hM
  rcases hcase with ⟨hc1, hc2⟩ | ⟨hc1, hc2⟩
  all_goals
    go_enter Tryd.func45, Tryd.ntmps45
    go_wp2
    clear hmk hc1 hc2
    go_loopg [7, 8] M (fun g s7 s8 wr => ∃ k c : Nat, k ≤ M ∧ g = M - k ∧ s7 = .int .u64 c ∧ s8 = .int .i64 k ∧ Part w wr M (a + b) k ∧ (a + b) / 4294967296 ^ k = a / 4294967296 ^ k + b / 4294967296 ^ k + c ∧ c ≤ 1)
    case atStart => exact ⟨0, 0, Nat.zero_le _, rfl, rfl, rfl, part_start w M _, q0, by decide⟩
    case round =>
      obtain ⟨k, c, hk, rfl, rfl, rfl, hP, hq, hc⟩ := hrel
      have HQ : Hid _ := sum_dig hq
      have hda := dig_lt a k
      have hdb := dig_lt b k
      clear hq q0
      by_cases hkM : k < M
      · have hkz : (k : Int) < (M : Int) := by omega
        have f1 := part_open hP hkM
        have f2 := hP.row.frozen k
        have m1 := and_mask ((c : Int) + dig a k + dig b k) (by omega) (by omega)
        have m2 := and_mask ((c : Int) + dig a k) (by omega) (by omega)
        have m3 := and_mask ((c : Int) + dig b k) (by omega) (by omega)
        have m4 := and_mask (c : Int) (by omega) (by omega)
        by_cases h1 : k < La
        · obtain rfl := ha.ptr (by omega)
          have h1z : (k : Int) < (La : Int) := by omega
          have ca := hP.q.cell (ha.cell k h1)
          by_cases h2 : k < Lb
          · obtain rfl := hb.ptr (by omega)
            have h2z : (k : Int) < (Lb : Int) := by omega
            have cb := hP.q.cell (hb.cell k h2)
            go_wp2
            go_roundg (M - (k + 1))
            case measure => go_light; omega
            case rel => go_light; exact plus_rel _ (by omega) hP HQ.out hkM hc
          · have h2z : ¬ (k : Int) < (Lb : Int) := by omega
            have e2 := dig_end hb.hi (i := k) (by omega)
            have E2 : Hid _ := e2
            clear e2
            go_wp2
            go_roundg (M - (k + 1))
            case measure => go_light; omega
            case rel => go_light; exact plus_rel _ (by have := E2.out; omega) hP HQ.out hkM hc
        · have h1z : ¬ (k : Int) < (La : Int) := by omega
          have e1 := dig_end ha.hi (i := k) (by omega)
          have E1 : Hid _ := e1
          clear e1
          by_cases h2 : k < Lb
          · obtain rfl := hb.ptr (by omega)
            have h2z : (k : Int) < (Lb : Int) := by omega
            have cb := hP.q.cell (hb.cell k h2)
            go_wp2
            go_roundg (M - (k + 1))
            case measure => go_light; omega
            case rel => go_light; exact plus_rel _ (by have := E1.out; omega) hP HQ.out hkM hc
          · have h2z : ¬ (k : Int) < (Lb : Int) := by omega
            have e2 := dig_end hb.hi (i := k) (by omega)
            have E2 : Hid _ := e2
            clear e2
            go_wp2
            go_roundg (M - (k + 1))
            case measure => go_light; omega
            case rel => go_light; exact plus_rel _ (by have := E1.out; have := E2.out; omega) hP HQ.out hkM hc
      · have hkz : ¬ (k : Int) < (M : Int) := by omega
        obtain rfl : k = M := by omega
        go_wp2_with fail
        refine (trimmed_any _ k k (a + b) wr (part_done hP) HL.out hM4 (Nat.le_refl _)).mono ?_
        rintro e w' ⟨L', C', rfl, hN, rfl⟩
        go_wp2_with fail
        go_ret
        exact ⟨_, rfl, ⟨_, _, _, _, rfl, hN⟩, hP.q⟩
end Go.Proofs.YtmgpaheobhfioaaDoor
