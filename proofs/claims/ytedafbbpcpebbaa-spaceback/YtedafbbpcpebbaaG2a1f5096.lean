/- What the reference's Plus and Minus return of whole numbers in memory. -/
import Derived.Test.YtedafbbpcpebbaaG939a4245
namespace Go.Proofs.Ytedafbbpcpebbaa
open Go.RowKit

/-- A new row of L digits, the first k of them those of v, the others 0. -/
structure Part (w wr : World) (L v k : Nat) : Prop where
  q : Q w wr
  row : wr.rowIs w.heap.size 23 L (fun j => .int .u32 (if j < k then (dig v j : Int) else 0))
theorem part_start (w : World) (L v : Nat) : Part w (w.alloc (.cells (madeCells #[.int .u32 0] L) 23)) L v 0 :=
  ⟨(Q.refl w).cells _ _, (World.rowIs_made w _ L 23).congr (fun j _ => by rw [if_neg (Nat.not_lt_zero _)])⟩
theorem part_step {w wr : World} {L v k : Nat} (h : Part w wr L v k) : Part w (wr.setCell ⟨w.heap.size, k, none⟩ (.int .u32 (dig v k))) L v (k + 1) := by
  refine ⟨h.q.set (Nat.le_refl _) _, (h.row.set k _).congr (fun j _ => ?_)⟩
  by_cases e : j = k
  · subst e; rw [if_pos rfl, if_pos (by omega)]
  · rw [if_neg e]
    by_cases g : j < k
    · rw [if_pos g, if_pos (by omega)]
    · rw [if_neg g, if_neg (by omega)]
theorem part_step' {w wr : World} {L v k : Nat} (h : Part w wr L v k) {x : Int} (e : x = dig v k) : Part w (wr.setCell ⟨w.heap.size, k, none⟩ (.int .u32 x)) L v (k + 1) := by
  rw [e]; exact part_step h
theorem part_done {w wr : World} {L v : Nat} (h : Part w wr L v L) (i : Nat) (hi : i < L) : wr.cell? ⟨w.heap.size, i, none⟩ = some (.int .u32 (dig v i)) := by
  rw [h.row.cell hi, if_pos hi]
theorem part_open {w wr : World} {L v k : Nat} (h : Part w wr L v k) (hk : k < L) : wr.cell? ⟨w.heap.size, k, none⟩ = some (.int .u32 0) := by
  rw [h.row.cell hk, if_neg (by omega)]

theorem and_mask (s : Int) (h0 : 0 ≤ s) (h1 : s ≤ 18446744073709551615) : bits .and .u64 s 4294967295 = s % 4294967296 := by go_bits2

theorem lt_pow_max {a b La Lb : Nat} (ha : a < 4294967296 ^ La) (hb : b < 4294967296 ^ Lb) : a + b < 4294967296 ^ (max La Lb + 1) := by
  have h1 : 4294967296 ^ La ≤ 4294967296 ^ (max La Lb) := Nat.pow_le_pow_right (by decide) (by omega)
  have h2 : 4294967296 ^ Lb ≤ 4294967296 ^ (max La Lb) := Nat.pow_le_pow_right (by decide) (by omega)
  rw [Nat.pow_succ]; omega

/-- One digit of a sum. -/
theorem sum_dig {a b k c : Nat} (h : (a + b) / 4294967296 ^ k = a / 4294967296 ^ k + b / 4294967296 ^ k + c) :
    (c + dig a k + dig b k) % 4294967296 = dig (a + b) k ∧
    (a + b) / 4294967296 ^ (k + 1) = a / 4294967296 ^ (k + 1) + b / 4294967296 ^ (k + 1) + (c + dig a k + dig b k) / 4294967296 := by
  rw [quo_succ, quo_succ, quo_succ]
  unfold dig
  generalize a / 4294967296 ^ k = x at *
  generalize b / 4294967296 ^ k = y at *
  generalize (a + b) / 4294967296 ^ k = z at *
  omega

theorem plus_rel {w wr : World} {M a b k c : Nat} (X : Int) (hX : X = ((c + dig a k + dig b k : Nat) : Int)) (hP : Part w wr M (a + b) k)
    (hQ : (c + dig a k + dig b k) % 4294967296 = dig (a + b) k ∧ (a + b) / 4294967296 ^ (k + 1) = a / 4294967296 ^ (k + 1) + b / 4294967296 ^ (k + 1) + (c + dig a k + dig b k) / 4294967296)
    (hk : k < M) (hc : c ≤ 1) :
    ∃ k' c' : Nat, k' ≤ M ∧ M - (k + 1) = M - k' ∧ Value.int .u64 (X / 4294967296) = .int .u64 c' ∧ Value.int .i64 ((k : Int) + 1) = .int .i64 k' ∧
      Part w (wr.setCell { block := w.heap.size, off := k } (.int .u32 (X % 4294967296))) M (a + b) k' ∧ (a + b) / 4294967296 ^ k' = a / 4294967296 ^ k' + b / 4294967296 ^ k' + c' ∧ c' ≤ 1 := by
  have h1 := dig_lt a k
  have h2 := dig_lt b k
  refine ⟨k + 1, (c + dig a k + dig b k) / 4294967296, by omega, rfl, by rw [hX]; rfl, by simp, part_step' hP (by rw [hX, ← hQ.1]; rfl), hQ.2, by omega⟩

set_option maxHeartbeats 4000000 in
theorem plus_any (va vb : Value) (a b : Nat) (w : World) (ha : NatAt w va a) (hb : NatAt w vb b) (hs : a + b < cap) :
    Calls Try.prog 60 #[va, vb] w fun e w' => ∃ v, e = .returned v ∧ NatAt w' v (a + b) ∧ Q w w' := by
  obtain ⟨pa, ba, La, Ca, rfl, ha⟩ := ha
  obtain ⟨pb, bb, Lb, Cb, rfl, hb⟩ := hb
  have hla := ha.len_cap (by omega)
  have hlb := hb.len_cap (by omega)
  obtain ⟨M, hM⟩ : ∃ M, M = max La Lb + 1 := ⟨_, rfl⟩
  have HM : Hid (M = max La Lb + 1) := hM
  have hM4 : M ≤ 400 := by omega
  have hmk := run_make_row' (P := Try.prog) 36 23 (.int .u32 0) 4 Try.underlying36 info_u32 rfl .i64 .i64 M (by omega) (by omega)
  have hcase : (La < Lb ∧ (Lb : Int) + 1 = (M : Int)) ∨ (¬ La < Lb ∧ (La : Int) + 1 = (M : Int)) := by omega
  have q0 : (a + b) / 4294967296 ^ 0 = a / 4294967296 ^ 0 + b / 4294967296 ^ 0 + 0 := by rw [quo_zero, quo_zero, quo_zero]; rfl
  have HL : Hid (a + b < 4294967296 ^ M) := by have := lt_pow_max ha.hi hb.hi; rw [← hM] at this; exact this
  clear hM
  rcases hcase with ⟨hc1, hc2⟩ | ⟨hc1, hc2⟩
  all_goals
    go_enter Try.func60, Try.ntmps60
    go_wp2
    clear hmk hc1 hc2
    go_loopg [7, 8] M (fun g s7 s8 wr => ∃ k c : Nat, k ≤ M ∧ g = M - k ∧ s7 = .int .u64 c ∧ s8 = .int .i64 k ∧ Part w wr M (a + b) k ∧ (a + b) / 4294967296 ^ k = a / 4294967296 ^ k + b / 4294967296 ^ k + c ∧ c ≤ 1)
    case atStart => exact ⟨0, 0, Nat.zero_le _, rfl, rfl, rfl, part_start w M _, q0, by decide⟩
    case round =>
      obtain ⟨k, c, hk, rfl, rfl, rfl, hP, hq, hc⟩ := hrel
      have HQ : Hid _ := sum_dig hq
      have hda := dig_lt a k
      have hdb := dig_lt b k
      clear hq q0
      by_cases hkM : k < M
      · have hkz : (k : Int) < (M : Int) := by omega
        have f1 := part_open hP hkM
        have f2 := hP.row.frozen k
        have m1 := and_mask ((c : Int) + dig a k + dig b k) (by omega) (by omega)
        have m2 := and_mask ((c : Int) + dig a k) (by omega) (by omega)
        have m3 := and_mask ((c : Int) + dig b k) (by omega) (by omega)
        have m4 := and_mask (c : Int) (by omega) (by omega)
        by_cases h1 : k < La
        · obtain rfl := ha.ptr (by omega)
          have h1z : (k : Int) < (La : Int) := by omega
          have ca := hP.q.cell (ha.cell k h1)
          by_cases h2 : k < Lb
          · obtain rfl := hb.ptr (by omega)
            have h2z : (k : Int) < (Lb : Int) := by omega
            have cb := hP.q.cell (hb.cell k h2)
            go_wp2
            go_roundg (M - (k + 1))
            case measure => go_light; omega
            case rel => go_light; exact plus_rel _ (by omega) hP HQ.out hkM hc
          · have h2z : ¬ (k : Int) < (Lb : Int) := by omega
            have e2 := dig_end hb.hi (i := k) (by omega)
            have E2 : Hid _ := e2
            clear e2
            go_wp2
            go_roundg (M - (k + 1))
            case measure => go_light; omega
            case rel => go_light; exact plus_rel _ (by have := E2.out; omega) hP HQ.out hkM hc
        · have h1z : ¬ (k : Int) < (La : Int) := by omega
          have e1 := dig_end ha.hi (i := k) (by omega)
          have E1 : Hid _ := e1
          clear e1
          by_cases h2 : k < Lb
          · obtain rfl := hb.ptr (by omega)
            have h2z : (k : Int) < (Lb : Int) := by omega
            have cb := hP.q.cell (hb.cell k h2)
            go_wp2
            go_roundg (M - (k + 1))
            case measure => go_light; omega
            case rel => go_light; exact plus_rel _ (by have := E1.out; omega) hP HQ.out hkM hc
          · have h2z : ¬ (k : Int) < (Lb : Int) := by omega
            have e2 := dig_end hb.hi (i := k) (by omega)
            have E2 : Hid _ := e2
            clear e2
            go_wp2
            go_roundg (M - (k + 1))
            case measure => go_light; omega
            case rel => go_light; exact plus_rel _ (by have := E1.out; have := E2.out; omega) hP HQ.out hkM hc
      · have hkz : ¬ (k : Int) < (M : Int) := by omega
        obtain rfl : k = M := by omega
        go_wp2_with fail
        refine (trimmed_any _ k k (a + b) wr (part_done hP) HL.out hM4 (Nat.le_refl _)).mono ?_
        rintro e w' ⟨L', C', rfl, hN, rfl⟩
        go_wp2_with fail
        go_ret
        exact ⟨_, rfl, ⟨_, _, _, _, rfl, hN⟩, hP.q⟩
end Go.Proofs.Ytedafbbpcpebbaa
