/- What the reference's Bits, Compare and Times return of whole numbers in memory. -/
import Derived.Test.YtmgpaheobhfioaaDoorG3bfe62d6
import Derived.RegionTactic
import Derived.ChangeAlike
namespace Go.Proofs.YtmgpaheobhfioaaDoor
open Go.RowKit

/-- How many bits a number has. -/
def blen (n : Nat) : Nat := if n = 0 then 0 else n.log2 + 1
theorem blen_half {n : Nat} (h : 0 < n) : blen (n / 2) + 1 = blen n := by
  unfold blen
  rw [if_neg (by omega : ¬ n = 0)]
  by_cases h1 : n = 1
  · subst h1; decide
  · rw [if_neg (by omega : ¬ n / 2 = 0)]
    rw [Nat.log2_def n, if_pos (by omega)]
theorem blen_lt (n : Nat) : n < 2 ^ blen n := by
  unfold blen
  by_cases h : n = 0
  · rw [if_pos h, h]; decide
  · rw [if_neg h]; exact Nat.lt_log2_self
theorem blen_le {n k : Nat} (h : n < 2 ^ k) : blen n ≤ k := by
  unfold blen
  by_cases h0 : n = 0
  · rw [if_pos h0]; omega
  · rw [if_neg h0]
    exact (Nat.log2_lt h0).2 h
theorem blen_shift (n k : Nat) (h : 2 ^ k ≤ n) : blen n = k + blen (n / 2 ^ k) := by
  have hp := Nat.two_pow_pos k
  have h1 : n / 2 ^ k ≠ 0 := by
    have := (Nat.le_div_iff_mul_le hp).2 (show 1 * 2 ^ k ≤ n by omega)
    omega
  unfold blen
  rw [if_neg (by omega), if_neg h1]
  have : n.log2 = k + (n / 2 ^ k).log2 := by
    refine (Nat.log2_eq_iff (by omega)).2 ⟨?_, ?_⟩
    · have := Nat.log2_self_le h1
      rw [Nat.le_div_iff_mul_le hp, ← Nat.pow_add, Nat.add_comm] at this
      exact this
    · have : n / 2 ^ k < 2 ^ ((n / 2 ^ k).log2 + 1) := Nat.lt_log2_self
      rw [Nat.div_lt_iff_lt_mul hp, ← Nat.pow_add] at this
      rw [show k + (n / 2 ^ k).log2 + 1 = (n / 2 ^ k).log2 + 1 + k by omega]
      exact this
  omega

set_option maxHeartbeats 800000 in
theorem bits_any (va : Value) (n : Nat) (w : World) (ha : NatAt w va n) :
    Calls Tryd.prog 74 #[va] w fun e w' => e = .returned (.int .i64 (blen n : Int)) ∧ w' = w := by
  obtain ⟨pa, ba, La, Ca, rfl, ha⟩ := ha
  have hlen := ha.len
  rcases Nat.eq_zero_or_pos La with rfl | hpos
  · have h0 := ha.pos.2 rfl
    subst h0
    go_enter Tryd.func74, Tryd.ntmps74
    go_wp2
    go_ret
    exact ⟨rfl, rfl⟩
  · obtain ⟨j, rfl⟩ : ∃ j, La = j + 1 := ⟨La - 1, by omega⟩
    obtain rfl := ha.ptr hpos
    have cj := ha.cell j (by omega)
    have hd := dig_lt n j
    have hne : (((j + 1 : Nat) : Int) == 0) = false := by simp; omega
    have h0 : 32 * j + blen (dig n j) = blen n := by
      have h1 := ha.lo hpos
      rw [show j + 1 - 1 = j by omega, base_pow] at h1
      have h2 : dig n j = n / 2 ^ (32 * j) := by
        unfold dig
        rw [Nat.mod_eq_of_lt, base_pow]
        rw [Nat.div_lt_iff_lt_mul (Nat.pow_pos (by decide)), Nat.mul_comm, ← Nat.pow_succ]
        exact ha.hi
      rw [h2]; exact (blen_shift n _ h1).symm
    have H0 : Hid _ := h0
    clear h0
    go_enter Tryd.func74, Tryd.ntmps74
    go_wp2
    go_loopg [3, 4] (blen (dig n j)) (fun g s3 s4 wr => wr = w ∧ ∃ m x : Nat, s3 = .int .i64 m ∧ s4 = .int .u32 x ∧ g = blen x ∧ m + blen x = blen n ∧ x < 4294967296 ∧ m ≤ 32 * j + 32)
    case atStart => exact ⟨rfl, 32 * j, dig n j, by simp, rfl, rfl, H0.out, hd, by omega⟩
    case round =>
      obtain ⟨rfl, m, x, rfl, rfl, rfl, hm, hx, hmj⟩ := hrel
      have HM : Hid _ := hm
      clear hm
      by_cases h : x = 0
      · subst h
        go_wp2
        go_ret
        exact ⟨ret_int (by have := HM.out; rw [← this]; simp [blen]), rfl⟩
      · have hz : (0 : Int) < (x : Int) := by omega
        have hb := blen_half (n := x) (by omega)
        have hle : blen x ≤ 32 := blen_le hx
        have HB : Hid _ := hb
        clear hb
        go_wp2
        go_roundg (blen (x / 2))
        case measure => go_light; have := HB.out; omega
        case rel =>
          go_light
          have := HB.out
          have := HM.out
          have hcap : blen n ≤ 32 * j + 32 := blen_le (by
            have h1 := ha.hi
            rw [base_pow, Nat.mul_add] at h1
            exact h1)
          exact ⟨rfl, m + 1, x / 2, by simp, by simp, rfl, by omega, by omega, by omega⟩

/-- -1, 0, 1. -/
def cmpV (a b : Nat) : Int := if a < b then -1 else if a = b then 0 else 1

theorem cmp_step {a b j : Nat} (h : a / 4294967296 ^ (j + 1) = b / 4294967296 ^ (j + 1)) :
    (dig a j = dig b j → a / 4294967296 ^ j = b / 4294967296 ^ j) ∧ (dig a j < dig b j → a < b) ∧ (dig b j < dig a j → b < a) := by
  rw [quo_succ, quo_succ] at h
  unfold dig
  refine ⟨fun e => by omega, fun e => ?_, fun e => ?_⟩
  · rcases Nat.lt_or_ge a b with g | g
    · exact g
    · have := Nat.div_le_div_right (c := 4294967296 ^ j) g
      omega
  · rcases Nat.lt_or_ge b a with g | g
    · exact g
    · have := Nat.div_le_div_right (c := 4294967296 ^ j) g
      omega

theorem len_lt {w : World} {p q : Option Addr} {ba bb La Lb a b : Nat} (ha : NatIs w p ba La a) (hb : NatIs w q bb Lb b) (h : La < Lb) : a < b := by
  have h1 := ha.hi
  have h2 := hb.lo (by omega)
  have h3 : 4294967296 ^ La ≤ 4294967296 ^ (Lb - 1) := Nat.pow_le_pow_right (by decide) (by omega)
  omega

set_option maxHeartbeats 1600000 in
theorem compare_any (va vb : Value) (a b : Nat) (w : World) (ha : NatAt w va a) (hb : NatAt w vb b) :
    Calls Tryd.prog 46 #[va, vb] w fun e w' => e = .returned (.int .i64 (cmpV a b)) ∧ Q w w' := by
  obtain ⟨pa, ba, La, Ca, rfl, ha⟩ := ha
  obtain ⟨pb, bb, Lb, Cb, rfl, hb⟩ := hb
  have hla := ha.len
  have hlb := hb.len
  rcases Nat.lt_trichotomy La Lb with h | h | h
  · have h1 : ((La : Int) != (Lb : Int)) = true := by simp; omega
    have h2 : (La : Int) < (Lb : Int) := by omega
    have e : cmpV a b = -1 := by unfold cmpV; rw [if_pos (len_lt ha hb h)]
    rw [e]
    go_enter Tryd.func46, Tryd.ntmps46
    go_wp2
    go_ret
    exact ⟨rfl, Q.refl w⟩
  · subst h
    go_enter Tryd.func46, Tryd.ntmps46
    go_wp2
    go_loopg [5] La (fun g s5 wr => Q w wr ∧ ((g = 0 ∧ s5 = .int .i64 (-1) ∧ a = b) ∨ ∃ j : Nat, g = j + 1 ∧ s5 = .int .i64 j ∧ j < La ∧ a / 4294967296 ^ (j + 1) = b / 4294967296 ^ (j + 1)))
    case atStart =>
      refine ⟨Q.refl w, ?_⟩
      rcases Nat.eq_zero_or_pos La with h0 | h0
      · exact Or.inl ⟨h0, congrArg (Value.int .i64) (by omega), by rw [ha.pos.2 h0, hb.pos.2 h0]⟩
      · exact Or.inr ⟨La - 1, by omega, congrArg (Value.int .i64) (by omega), by omega, by rw [show La - 1 + 1 = La by omega, quo_end ha.hi, quo_end hb.hi]⟩
    case round =>
      obtain ⟨hQ, ⟨rfl, rfl, rfl⟩ | ⟨j, rfl, rfl, hj, hab⟩⟩ := hrel
      · go_wp2
        go_ret
        exact ⟨ret_int (by unfold cmpV; rw [if_neg (by omega), if_pos rfl]), hQ⟩
      · have hjz : (0 : Int) ≤ (j : Int) := by omega
        obtain rfl := ha.ptr (by omega)
        obtain rfl := hb.ptr (by omega)
        have ca := hQ.cell (ha.cell j hj)
        have cb := hQ.cell (hb.cell j hj)
        have HS : Hid _ := cmp_step hab
        clear hab
        by_cases hd : dig a j = dig b j
        · have h1 : ((dig a j : Int) != (dig b j : Int)) = false := by rw [hd]; simp
          go_wp2
          go_region
          all_goals
            go_wp2
            go_roundg j
            case measure => go_light; omega
            case rel =>
              go_light
              refine ⟨hQ.drew, ?_⟩
              have hq := HS.out.1 hd
              rcases Nat.eq_zero_or_pos j with h0 | h0
              · subst h0
                rw [quo_zero, quo_zero] at hq
                exact Or.inl ⟨rfl, by simp, hq⟩
              · exact Or.inr ⟨j - 1, by omega, congrArg (Value.int .i64) (by omega), by omega, by rw [show j - 1 + 1 = j by omega]; exact hq⟩
        · have h1 : ((dig a j : Int) != (dig b j : Int)) = true := by simp; omega
          rcases Nat.lt_or_ge (dig a j) (dig b j) with hl | hl
          · have h2 : (dig a j : Int) < (dig b j : Int) := by omega
            go_wp2
            go_region
            all_goals
              go_wp2
              go_region
              all_goals
                go_wp2
                go_ret
                exact ⟨ret_int (by have := HS.out.2.1 hl; unfold cmpV; rw [if_pos this]), hQ.drew.drew⟩
          · have h2 : ¬ (dig a j : Int) < (dig b j : Int) := by omega
            go_wp2
            go_region
            all_goals
              go_wp2
              go_region
              all_goals
                go_wp2
                go_ret
                exact ⟨ret_int (by have := HS.out.2.2 (by omega); unfold cmpV; rw [if_neg (by omega), if_neg (by omega)]), hQ.drew.drew⟩
  · have h1 : ((La : Int) != (Lb : Int)) = true := by simp; omega
    have h2 : ¬ (La : Int) < (Lb : Int) := by omega
    have e : cmpV a b = 1 := by have := len_lt hb ha h; unfold cmpV; rw [if_neg (by omega), if_neg (by omega)]
    rw [e]
    go_enter Tryd.func46, Tryd.ntmps46
    go_wp2
    go_ret
    exact ⟨rfl, Q.refl w⟩

end Go.Proofs.YtmgpaheobhfioaaDoor
/- What the reference's Minus, NatOf, Low and Bit return of whole numbers in memory. -/
namespace Go.Proofs.YtmgpaheobhfioaaDoor
open Go.RowKit

theorem minus_rel {w wr : World} {M d b k c : Nat} (X : Int) (c1 : Nat) (hX : X = dig d k) (hP : Part w wr M d k)
    (hQ : (d + b) / 4294967296 ^ (k + 1) = d / 4294967296 ^ (k + 1) + b / 4294967296 ^ (k + 1) + (c + dig d k + dig b k) / 4294967296)
    (h1 : c1 = (c + dig d k + dig b k) / 4294967296) (hk : k < M) (hc : c1 ≤ 1) :
    ∃ k' c' : Nat, k' ≤ M ∧ M - (k + 1) = M - k' ∧ Value.int .u64 c1 = .int .u64 c' ∧ Value.int .i64 ((k : Int) + 1) = .int .i64 k' ∧
      Part w (wr.setCell { block := w.heap.size, off := k } (.int .u32 X)) M d k' ∧ (d + b) / 4294967296 ^ k' = d / 4294967296 ^ k' + b / 4294967296 ^ k' + c' ∧ c' ≤ 1 :=
  ⟨k + 1, c1, by omega, rfl, rfl, by simp, part_step' hP hX, by rw [h1]; exact hQ, hc⟩

set_option maxHeartbeats 4000000 in
theorem minus_any (va vb : Value) (a b : Nat) (w : World) (ha : NatAt w va a) (hb : NatAt w vb b) (hs : a < cap) (hab : b ≤ a) :
    Calls Tryd.prog 47 #[va, vb] w fun e w' => ∃ v, e = .returned v ∧ NatAt w' v (a - b) ∧ Q w w' := by
  obtain ⟨pa, ba, La, Ca, rfl, ha⟩ := ha
  obtain ⟨pb, bb, Lb, Cb, rfl, hb⟩ := hb
  have hla := ha.len_cap (by omega)
  have hlb := hb.len_cap (by omega)
  obtain ⟨d, rfl⟩ : ∃ d, a = d + b := ⟨a - b, by omega⟩
  rw [Nat.add_sub_cancel]
  have hmk := run_make_row' (P := Tryd.prog) 41 36 (.int .u32 0) 4 Tryd.underlying41 info_u32 rfl .i64 .i64 La (by omega) (by omega)
  have q0 : (d + b) / 4294967296 ^ 0 = d / 4294967296 ^ 0 + b / 4294967296 ^ 0 + 0 := by rw [quo_zero, quo_zero, quo_zero]; rfl
  have HL : Hid (d < 4294967296 ^ La) := Nat.lt_of_le_of_lt (by omega) ha.hi
  go_enter Tryd.func47, Tryd.ntmps47
  go_wp2
  clear hmk
  go_loopg [6, 7] La (fun g s6 s7 wr => ∃ k c : Nat, k ≤ La ∧ g = La - k ∧ s6 = .int .u64 c ∧ s7 = .int .i64 k ∧ Part w wr La d k ∧ (d + b) / 4294967296 ^ k = d / 4294967296 ^ k + b / 4294967296 ^ k + c ∧ c ≤ 1)
  case atStart => exact ⟨0, 0, Nat.zero_le _, rfl, rfl, rfl, part_start w La _, q0, by decide⟩
  case round =>
    obtain ⟨k, c, hk, rfl, rfl, rfl, hP, hq, hc⟩ := hrel
    have hS := sum_dig hq
    have hda := dig_lt (d + b) k
    have hdb := dig_lt b k
    have hdd := dig_lt d k
    clear hq q0
    by_cases hkM : k < La
    · have hkz : (k : Int) < (La : Int) := by omega
      have f1 := part_open hP hkM
      have f2 := hP.row.frozen k
      obtain rfl := ha.ptr (by omega)
      have ca := hP.q.cell (ha.cell k hkM)
      have hlt : ((dig (d + b) k : Int) < (c : Int) + dig b k ∧ (dig (d + b) k : Int) + 4294967296 - ((c : Int) + dig b k) = dig d k ∧ 1 = (c + dig d k + dig b k) / 4294967296) ∨
          (¬ (dig (d + b) k : Int) < (c : Int) + dig b k ∧ (dig (d + b) k : Int) - ((c : Int) + dig b k) = dig d k ∧ 0 = (c + dig d k + dig b k) / 4294967296) := by
        have := hS.1
        omega
      have HS : Hid _ := hS.2
      clear hS
      have Hlt : Hid _ := hlt
      clear hlt
      by_cases h2 : k < Lb
      · obtain rfl := hb.ptr (by omega)
        have h2z : (k : Int) < (Lb : Int) := by omega
        have cb := hP.q.cell (hb.cell k h2)
        rcases Hlt.out with ⟨g1, g2, g3⟩ | ⟨g1, g2, g3⟩
        · have G3 : Hid _ := g3
          clear g3
          go_wp2
          go_roundg (La - (k + 1))
          case measure => go_light; omega
          case rel => go_light; exact minus_rel _ 1 rfl hP HS.out G3.out hkM (by decide)
        · have G3 : Hid _ := g3
          clear g3
          go_wp2
          go_roundg (La - (k + 1))
          case measure => go_light; omega
          case rel => go_light; exact minus_rel _ 0 rfl hP HS.out G3.out hkM (by decide)
      · have h2z : ¬ (k : Int) < (Lb : Int) := by omega
        have e2 := dig_end hb.hi (i := k) (by omega)
        have E2 : Hid _ := e2
        rcases Hlt.out with ⟨g1, g2, g3⟩ | ⟨g1, g2, g3⟩
        · have G3 : Hid _ := g3
          have g1' : (dig (d + b) k : Int) < (c : Int) := by omega
          have g2' : (dig (d + b) k : Int) + 4294967296 - (c : Int) = dig d k := by omega
          clear g3 g1 g2 e2
          go_wp2
          go_roundg (La - (k + 1))
          case measure => go_light; omega
          case rel => go_light; exact minus_rel _ 1 rfl hP HS.out G3.out hkM (by decide)
        · have G3 : Hid _ := g3
          have g1' : ¬ (dig (d + b) k : Int) < (c : Int) := by omega
          have g2' : (dig (d + b) k : Int) - (c : Int) = dig d k := by omega
          clear g3 g1 g2 e2
          go_wp2
          go_roundg (La - (k + 1))
          case measure => go_light; omega
          case rel => go_light; exact minus_rel _ 0 rfl hP HS.out G3.out hkM (by decide)
    · have hkz : ¬ (k : Int) < (La : Int) := by omega
      obtain rfl : k = La := by omega
      go_wp2_with fail
      refine (trimmed_any _ k k d wr (part_done hP) HL.out (by omega) (Nat.le_refl _)).mono ?_
      rintro e w' ⟨L', C', rfl, hN, rfl⟩
      go_wp2_with fail
      go_ret
      exact ⟨_, rfl, ⟨_, _, _, _, rfl, hN⟩, hP.q⟩

/-- How many digits a number of 64 bits has. -/
def len64 (n : Nat) : Nat := if n = 0 then 0 else if n < 4294967296 then 1 else 2
theorem len64_unique {w : World} {p : Option Addr} {b L n : Nat} (h : NatIs w p b L n) (hn : n < 18446744073709551616) : L = len64 n := by
  have h2 := h.len_le (k := 2) (by omega)
  unfold len64
  by_cases h0 : n = 0
  · rw [if_pos h0]; exact h.pos.1 h0
  · rw [if_neg h0]
    have hL : L ≠ 0 := fun e => h0 (h.pos.2 e)
    by_cases h1 : n < 4294967296
    · rw [if_pos h1]
      have := h.len_le (k := 1) (by omega)
      omega
    · rw [if_neg h1]
      rcases (by omega : L = 1 ∨ L = 2) with e | e
      · subst e
        have := h.hi
        omega
      · exact e
/-- Two digits that lie somewhere. -/
theorem natAt_two {w : World} {b n C : Nat} (hn : n < 18446744073709551616) (h0 : w.cell? ⟨b, 0, none⟩ = some (.int .u32 ((n : Int) % 4294967296))) (h1 : w.cell? ⟨b, 1, none⟩ = some (.int .u32 ((n : Int) / 4294967296))) :
    NatAt w (.slice (some ⟨b, 0, none⟩) (len64 n) C) n := by
  refine ⟨_, b, _, C, rfl, fun _ => rfl, fun i hi => ?_, ?_, ?_, ?_⟩
  · have hi2 : i < 2 := Nat.lt_of_lt_of_le hi (by unfold len64; split <;> (try split) <;> omega)
    rcases (by omega : i = 0 ∨ i = 1) with rfl | rfl
    · rw [h0]; congr 2; unfold dig; rw [quo_zero]; rfl
    · rw [h1]; congr 2; unfold dig; rw [Nat.pow_one]; omega
  · unfold len64; split
    · omega
    · split <;> omega
  · unfold len64; split
    · omega
    · split
      · intro _; omega
      · intro _; omega
  · unfold len64; split
    · omega
    · split <;> omega

set_option maxHeartbeats 800000 in
theorem natof_any (n : Nat) (w : World) (hn : n < 18446744073709551616) :
    Calls Tryd.prog 21 #[.int .u64 n] w fun e w' => ∃ C, e = .returned (.slice (some ⟨w.heap.size, 0, none⟩) (len64 n) C) ∧ w' = w.alloc (.cells #[.int .u32 ((n : Int) % 4294967296), .int .u32 ((n : Int) / 4294967296)] 36) := by
  have m1 := and_mask (n : Int) (by omega) (by omega)
  have hc : ∀ i, i < 2 → (w.alloc (.cells #[.int .u32 ((n : Int) % 4294967296), .int .u32 ((n : Int) / 4294967296)] 36)).cell? ⟨w.heap.size, i, none⟩ = some (.int .u32 (dig n i)) := by
    intro i hi
    have := (World.rowIs_alloc w #[.int .u32 ((n : Int) % 4294967296), .int .u32 ((n : Int) / 4294967296)] 36 (fun i => .int .u32 (dig n i)) (by
      intro i hi
      have hi' : i < 2 := hi
      rcases (by omega : i = 0 ∨ i = 1) with rfl | rfl
      · show some (Value.int .u32 ((n : Int) % 4294967296)) = _
        congr 2; unfold dig; rw [quo_zero]; rfl
      · show some (Value.int .u32 ((n : Int) / 4294967296)) = _
        congr 2; unfold dig; rw [Nat.pow_one]; omega)).cell (i := i) hi
    exact this
  go_enter Tryd.func21, Tryd.ntmps21
  go_wp2_with fail
  refine (trimmed_any _ 2 2 n _ hc (by omega) (by decide) (Nat.le_refl _)).mono ?_
  rintro e w' ⟨L', C', rfl, hN, rfl⟩
  rw [len64_unique hN hn]
  go_wp2_with fail
  go_ret
  exact ⟨_, rfl, rfl⟩
/-- The same, as the others are told. -/
theorem natof_nat (n : Nat) (w : World) (hn : n < 18446744073709551616) :
    Calls Tryd.prog 21 #[.int .u64 n] w fun e w' => ∃ v, e = .returned v ∧ NatAt w' v n ∧ Q w w' := by
  refine (natof_any n w hn).mono ?_
  rintro e w' ⟨C, rfl, rfl⟩
  refine ⟨_, rfl, natAt_two hn ?_ ?_, (Q.refl w).cells _ _⟩
  · simp [go_sem]
  · simp [go_sem]

theorem or_hi (x y : Nat) (hx : x < 4294967296) (hy : y < 4294967296) : bits .or .u64 (x : Int) ((y : Int) * 4294967296) = ((x + y * 4294967296 : Nat) : Int) := by
  have e : (y : Int) * 4294967296 = ((y * 4294967296 : Nat) : Int) := by omega
  rw [e, u64_or_nat _ _ (by omega) (by omega), Nat.or_comm, Nat.mul_comm y, show (4294967296 : Nat) = 2 ^ 32 from rfl, ← Nat.two_pow_add_eq_or_of_lt (i := 32) hx y, Nat.add_comm]

def lowV (n : Nat) : Nat := n % 18446744073709551616
set_option maxHeartbeats 800000 in
theorem low_any (va : Value) (n : Nat) (w : World) (ha : NatAt w va n) :
    Calls Tryd.prog 77 #[va] w fun e w' => e = .returned (.int .u64 (lowV n : Int)) ∧ w' = w := by
  obtain ⟨pa, ba, La, Ca, rfl, ha⟩ := ha
  have d0 := dig_lt n 0
  have d1 := dig_lt n 1
  have hlen := ha.len
  have hor := or_hi _ _ d0 d1
  have e0 : dig n 0 = n % 4294967296 := by unfold dig; rw [quo_zero]
  have e1 : dig n 1 = n / 4294967296 % 4294967296 := by unfold dig; rw [Nat.pow_one]
  have E0 : Hid _ := e0
  have E1 : Hid _ := e1
  clear e0 e1
  rcases Nat.eq_zero_or_pos La with rfl | hpos
  · have h0 := ha.pos.2 rfl
    subst h0
    go_enter Tryd.func77, Tryd.ntmps77
    go_wp2
    go_ret
    exact ⟨ret_int (by decide), rfl⟩
  · obtain rfl := ha.ptr hpos
    have c0 := ha.cell 0 hpos
    by_cases h1 : La = 1
    · subst h1
      go_enter Tryd.func77, Tryd.ntmps77
      go_wp2
      go_ret
      have := ha.hi
      rw [Nat.pow_one] at this
      exact ⟨ret_int (by have := E0.out; unfold lowV; omega), rfl⟩
    · have h1z : (1 : Int) < (La : Int) := by omega
      have h0z : (0 : Int) < (La : Int) := by omega
      have c1 := ha.cell 1 (by omega)
      go_enter Tryd.func77, Tryd.ntmps77
      go_wp2
      go_ret
      exact ⟨ret_int (by have := E0.out; have := E1.out; unfold lowV; omega), rfl⟩

/-- The i-th bit; the lowest 64. -/
def bitV (n i : Nat) : Nat := n / 2 ^ i % 2
theorem bitV_le (n i : Nat) : bitV n i ≤ 1 := by unfold bitV; omega

theorem dig_bit (n q r : Nat) (hr : r < 32) : dig n q / 2 ^ r % 2 = bitV n (32 * q + r) := by
  unfold dig bitV
  rw [Nat.pow_add, ← base_pow, ← Nat.div_div_eq_div_mul]
  generalize n / 4294967296 ^ q = x
  have e : 4294967296 = 2 ^ r * (2 * 2 ^ (31 - r)) := by rw [show 2 * 2 ^ (31 - r) = 2 ^ (31 - r + 1) by rw [Nat.pow_succ]; omega, ← Nat.pow_add, show r + (31 - r + 1) = 32 by omega]
  rw [e, Nat.mod_mul, Nat.mul_comm (2 ^ r), Nat.add_mul_div_right _ _ (Nat.two_pow_pos r), Nat.div_eq_of_lt (Nat.mod_lt _ (Nat.two_pow_pos r)), Nat.zero_add]
  rw [Nat.mod_mod_of_dvd _ ⟨_, rfl⟩]

set_option maxHeartbeats 800000 in
theorem bit_any (va : Value) (n i : Nat) (w : World) (ha : NatAt w va n) (hi : i ≤ 20000) :
    Calls Tryd.prog 75 #[va, .int .i64 i] w fun e w' => e = .returned (.int .i64 (bitV n i : Int)) ∧ w' = w := by
  obtain ⟨pa, ba, La, Ca, rfl, ha⟩ := ha
  obtain ⟨q, r, hq, hr⟩ : ∃ q r : Nat, i = 32 * q + r ∧ r < 32 := ⟨i / 32, i % 32, by omega, by omega⟩
  obtain ⟨e1, e2⟩ := i64_quo32 i q r hq hr
  have hB := dig_bit n q r hr
  rw [← hq] at hB
  have HN : Hid (i = 32 * q + r) := hq
  have hq6 : q ≤ 625 := by omega
  clear hq
  have hneg : ¬ (i : Int) < 0 := by omega
  have hlen := ha.len
  have hdq := dig_lt n q
  have hlt : dig n q / 2 ^ r ≤ dig n q := Nat.div_le_self _ _
  have hm : bits .and .u32 ((dig n q : Int) / 2 ^ r) 1 = (bitV n i : Int) := by
    have e : (dig n q : Int) / 2 ^ r = ((dig n q / 2 ^ r : Nat) : Int) := by rw [Int.natCast_ediv, Int.natCast_pow]; rfl
    rw [e, ← hB, show (1 : Int) = ((1 : Nat) : Int) from rfl, u32_and_nat _ _ (by omega) (by decide), Nat.and_one_is_mod]
  have hb2 := bitV_le n i
  by_cases h : q < La
  · have hz : ¬ (La : Int) ≤ (q : Int) := by omega
    obtain rfl := ha.ptr (by omega)
    have cq := ha.cell q h
    clear hB
    go_enter Tryd.func75, Tryd.ntmps75
    go_wp2
    go_ret
    exact ⟨rfl, rfl⟩
  · have hz : (La : Int) ≤ (q : Int) := by omega
    have h0 : n / 2 ^ i = 0 := Nat.div_eq_of_lt (by
      have h1 := ha.hi
      rw [base_pow] at h1
      exact Nat.lt_of_lt_of_le h1 (Nat.pow_le_pow_right (by decide) (by have := HN.out; omega)))
    have e0 : bitV n i = 0 := by unfold bitV; rw [h0]
    rw [e0]
    clear hm hB hb2
    go_enter Tryd.func75, Tryd.ntmps75
    go_wp2
    go_ret
    exact ⟨rfl, rfl⟩
end Go.Proofs.YtmgpaheobhfioaaDoor
/- What the reference's Up returns: a whole number in memory times a power of two. -/
namespace Go.Proofs.YtmgpaheobhfioaaDoor
open Go.RowKit

/-- The row that Up fills: digits of v below k + q, c there, 0 above. -/
structure UpRow (w wr : World) (M v k q c : Nat) : Prop where
  kept : Q w wr
  row : wr.rowIs w.heap.size 36 M (fun j => .int .u32 (if j < k + q then (dig v j : Int) else if j = k + q then (c : Int) else 0))
theorem up_cell {w wr : World} {M v k q c : Nat} (h : UpRow w wr M v k q c) (hk : k + q < M) : wr.cell? ⟨w.heap.size, k + q, none⟩ = some (.int .u32 c) := by
  rw [h.row.cell hk, if_neg (by omega), if_pos rfl]
theorem up_cell2 {w wr : World} {M v k q c : Nat} (h : UpRow w wr M v k q c) (hk : k + q + 1 < M) (y : Value) :
    (wr.setCell ⟨w.heap.size, k + q, none⟩ y).cell? ⟨w.heap.size, k + q + 1, none⟩ = some (.int .u32 0) := by
  rw [(h.row.set (k + q) y).cell hk, if_neg (by omega), if_neg (by omega), if_neg (by omega)]
theorem up_step {w wr : World} {M v k q c : Nat} (h : UpRow w wr M v k q c) {Y : Int} (hY : Y = dig v (k + q)) (Z : Nat) :
    UpRow w ((wr.setCell ⟨w.heap.size, k + q, none⟩ (.int .u32 Y)).setCell ⟨w.heap.size, k + q + 1, none⟩ (.int .u32 Z)) M v (k + 1) q Z := by
  refine ⟨(h.kept.set (Nat.le_refl _) _).set (Nat.le_refl _) _, ((h.row.set _ _).set _ _).congr (fun j _ => ?_)⟩
  by_cases e1 : j = k + q + 1
  · subst e1; rw [if_pos rfl, if_neg (by omega), if_pos (by omega)]
  · rw [if_neg e1]
    by_cases e2 : j = k + q
    · subst e2; rw [if_pos rfl, if_pos (by omega), hY]
    · rw [if_neg e2]
      by_cases e3 : j < k + q
      · rw [if_pos e3, if_pos (by omega)]
      · rw [if_neg e3, if_neg e2, if_neg (by omega), if_neg (by omega)]

/-- a * 2^n behind q + k digits. -/
theorem up_quo (a q r k : Nat) : a * 2 ^ (32 * q + r) / 4294967296 ^ (k + q) = a * 2 ^ r / 4294967296 ^ k := by
  have hp : 0 < 4294967296 ^ q := Nat.pow_pos (by decide)
  rw [Nat.pow_add, ← base_pow, Nat.pow_add, Nat.mul_comm (4294967296 ^ q) (2 ^ r), ← Nat.mul_assoc, Nat.mul_div_mul_right _ _ hp]

theorem up_low (a q r j : Nat) (hj : j < q) : dig (a * 2 ^ (32 * q + r)) j = 0 := by
  obtain ⟨d, rfl⟩ : ∃ d, q = j + (d + 1) := ⟨q - j - 1, by omega⟩
  have hp : 0 < 4294967296 ^ j := Nat.pow_pos (by decide)
  unfold dig
  rw [Nat.pow_add 2, ← base_pow, Nat.pow_add 4294967296, Nat.pow_succ]
  rw [show a * (4294967296 ^ j * (4294967296 ^ d * 4294967296) * 2 ^ r) = a * 2 ^ r * 4294967296 ^ d * 4294967296 * 4294967296 ^ j by
    rw [Nat.mul_comm (4294967296 ^ j), Nat.mul_assoc, Nat.mul_comm (4294967296 ^ j), ← Nat.mul_assoc, ← Nat.mul_assoc, Nat.mul_comm _ (2 ^ r), ← Nat.mul_assoc, ← Nat.mul_assoc, Nat.mul_comm (2 ^ r) a]]
  rw [Nat.mul_div_cancel _ hp, Nat.mul_mod_left]

theorem up_dig {a k r c : Nat} (hr : r < 32) (hc : c < 2 ^ r) (h : a * 2 ^ r / 4294967296 ^ k = a / 4294967296 ^ k * 2 ^ r + c) :
    c ||| (dig a k * 2 ^ r % 4294967296) = a * 2 ^ r / 4294967296 ^ k % 4294967296 ∧
    a * 2 ^ r / 4294967296 ^ (k + 1) = a / 4294967296 ^ (k + 1) * 2 ^ r + dig a k * 2 ^ r / 4294967296 ∧ dig a k * 2 ^ r / 4294967296 < 2 ^ r := by
  rw [quo_succ, quo_succ, h]
  unfold dig
  generalize a / 4294967296 ^ k = x
  obtain ⟨s, hs⟩ : ∃ s, s = 32 - r := ⟨_, rfl⟩
  have hB : 4294967296 = 2 ^ s * 2 ^ r := by rw [← Nat.pow_add, show s + r = 32 by omega]
  have hp := Nat.two_pow_pos r
  have hps := Nat.two_pow_pos s
  -- x = 2^32 * u + y, y = 2^s * t + z
  obtain ⟨u, y, hx, hy⟩ : ∃ u y, x = 4294967296 * u + y ∧ y < 4294967296 := ⟨x / 4294967296, x % 4294967296, by omega, by omega⟩
  have hxm : x % 4294967296 = y := by omega
  have hxd : x / 4294967296 = u := by omega
  rw [hxm, hxd]
  obtain ⟨t, z, hy2, hz⟩ : ∃ t z, y = 2 ^ s * t + z ∧ z < 2 ^ s := ⟨y / 2 ^ s, y % 2 ^ s, (Nat.div_add_mod y (2 ^ s)).symm, Nat.mod_lt _ hps⟩
  have ht : t < 2 ^ r := by
    rcases Nat.lt_or_ge t (2 ^ r) with g | g
    · exact g
    · have := Nat.mul_le_mul_left (2 ^ s) g
      omega
  have hyr : y * 2 ^ r = 4294967296 * t + z * 2 ^ r := by
    rw [hy2, Nat.add_mul, hB, Nat.mul_right_comm]
  have hzr : z * 2 ^ r + 2 ^ r ≤ 4294967296 := by
    have := Nat.mul_le_mul_right (2 ^ r) (show z + 1 ≤ 2 ^ s from hz)
    rw [Nat.add_mul, Nat.one_mul, ← hB] at this
    exact this
  have hxr : x * 2 ^ r = 4294967296 * (u * 2 ^ r) + y * 2 ^ r := by rw [hx, Nat.add_mul, Nat.mul_assoc]
  have m1 : y * 2 ^ r % 4294967296 = z * 2 ^ r := by omega
  have d1 : y * 2 ^ r / 4294967296 = t := by omega
  rw [m1, d1, hxr, hyr]
  refine ⟨?_, ?_, ht⟩
  · have : c ||| z * 2 ^ r = z * 2 ^ r + c := by
      rw [Nat.or_comm, Nat.mul_comm z, ← Nat.two_pow_add_eq_or_of_lt hc z]
    rw [this]; omega
  · omega

theorem u64_wrap {x : Int} (h0 : 0 ≤ x) (h1 : x ≤ 18446744073709551615) : IntKind.u64.wrap x = x := by rw [IntKind.wrap_u64]; omega

set_option maxHeartbeats 4000000 in
theorem up_any (va : Value) (a n : Nat) (w : World) (ha : NatAt w va a) (hs : a * 2 ^ n < cap) :
    Calls Tryd.prog 44 #[va, .int .i64 n] w fun e w' => ∃ v, e = .returned v ∧ NatAt w' v (a * 2 ^ n) ∧ Q w w' := by
  obtain ⟨pa, ba, La, Ca, rfl, ha⟩ := ha
  rcases Nat.eq_zero_or_pos La with rfl | hpos
  · have h0 := ha.pos.2 rfl
    subst h0
    go_enter Tryd.func44, Tryd.ntmps44
    go_wp2
    go_ret
    rw [Nat.zero_mul]
    exact ⟨_, rfl, nat_nil w, Q.refl w⟩
  · obtain ⟨q, r, hq, hr⟩ : ∃ q r : Nat, n = 32 * q + r ∧ r < 32 := ⟨n / 32, n % 32, by omega, by omega⟩
    obtain ⟨e1, e2⟩ := i64_quo32 n q r hq hr
    have hne : ((La : Int) == 0) = false := by simp; omega
    obtain ⟨M, hM⟩ : ∃ M, M = La + q + 1 := ⟨_, rfl⟩
    have hMz : (La : Int) + (q : Int) + 1 = (M : Int) := by omega
    have HM : Hid (M = La + q + 1) := hM
    have hbig : 32 * (La - 1) + n < 12480 := by
      have h1 := ha.lo hpos
      have h2 : 2 ^ (32 * (La - 1)) * 2 ^ n ≤ a * 2 ^ n := by rw [← base_pow]; exact Nat.mul_le_mul_right _ h1
      have h3 : 2 ^ (32 * (La - 1) + n) < 2 ^ (32 * capLen) := by rw [Nat.pow_add, ← base_pow capLen]; exact Nat.lt_of_le_of_lt h2 hs
      have h4 := (Nat.pow_lt_pow_iff_right (by decide)).1 h3
      exact h4
    have hM4 : M ≤ 400 := by omega
    have hn : n ≤ 12480 := by omega
    have HL : Hid (a * 2 ^ n < 4294967296 ^ M) := by
      have h1 := ha.hi
      show a * 2 ^ n < 4294967296 ^ M
      rw [hM, hq, Nat.pow_add 2, ← base_pow, Nat.pow_succ, Nat.pow_add, Nat.mul_comm (4294967296 ^ q), ← Nat.mul_assoc]
      have h2 : 2 ^ r < 4294967296 := by
        have : 2 ^ r < 2 ^ 32 := Nat.pow_lt_pow_right (by decide) hr
        exact this
      have h3 : a * 2 ^ r < 4294967296 ^ La * 4294967296 := Nat.mul_lt_mul_of_lt_of_lt h1 h2
      have h4 : a * 2 ^ r * 4294967296 ^ q < 4294967296 ^ La * 4294967296 * 4294967296 ^ q := Nat.mul_lt_mul_of_pos_right h3 (Nat.pow_pos (by decide))
      rw [Nat.mul_right_comm (4294967296 ^ La)] at h4
      exact h4
    have HQ0 : Hid (∀ k, a * 2 ^ n / 4294967296 ^ (k + q) = a * 2 ^ r / 4294967296 ^ k) := by
      intro k; rw [hq]; exact up_quo a q r k
    have HZ : Hid (∀ j, j < q → dig (a * 2 ^ n) j = 0) := by
      intro j hj; rw [hq]; exact up_low a q r j hj
    clear hM hq hbig
    have hmk := run_make_row' (P := Tryd.prog) 41 36 (.int .u32 0) 4 Tryd.underlying41 info_u32 rfl .i64 .i64 M (by omega) (by omega)
    obtain rfl := ha.ptr hpos
    go_enter Tryd.func44, Tryd.ntmps44
    go_wp2
    clear hmk
    go_loopg [6] La (fun g s6 wr => ∃ k c : Nat, k ≤ La ∧ g = La - k ∧ s6 = .int .i64 k ∧ UpRow w wr M (a * 2 ^ n) k q c ∧ c < 2 ^ r ∧ a * 2 ^ r / 4294967296 ^ k = a / 4294967296 ^ k * 2 ^ r + c)
    case atStart =>
      refine ⟨0, 0, Nat.zero_le _, rfl, rfl, ⟨(Q.refl w).cells _ _, (World.rowIs_made w _ M 36).congr (fun j _ => ?_)⟩, Nat.two_pow_pos r, by rw [quo_zero, quo_zero]; rfl⟩
      have hz : ∀ j, j < q → dig (a * 2 ^ n) j = 0 := HZ.out
      by_cases h1 : j < 0 + q
      · rw [if_pos h1, hz j (by omega)]; rfl
      · rw [if_neg h1]; split <;> rfl
    case round =>
      obtain ⟨k, c, hk, rfl, rfl, hR, hc, hcq⟩ := hrel
      by_cases hkL : k < La
      · have hkz : (k : Int) < (La : Int) := by omega
        have ca := hR.kept.cell (ha.cell k hkL)
        have hd := dig_lt a k
        have hM' := HM.out
        have f1 := up_cell hR (by omega)
        have f2 := hR.row.frozen (k + q)
        have f3 := up_cell2 hR (by omega)
        have f4 : ∀ y, (wr.setCell ⟨w.heap.size, k + q, none⟩ y).frozen? ⟨w.heap.size, k + q + 1, none⟩ = false := fun y => (hR.row.set _ y).frozen _
        have hUD := up_dig hr hc hcq
        have h2r : 2 ^ r ≤ 2147483648 := Nat.pow_le_pow_right (n := 2) (by decide) (show r ≤ 31 by omega)
        obtain ⟨X, hX⟩ : ∃ X, X = dig a k * 2 ^ r := ⟨_, rfl⟩
        have hXb : X < 18446744073709551616 := by
          rw [hX]
          have := Nat.mul_le_mul (show dig a k ≤ 4294967295 by omega) h2r
          omega
        have hw : IntKind.u64.wrap ((dig a k : Int) * 2 ^ r) = (X : Int) := by
          have e : (dig a k : Int) * 2 ^ r = (X : Int) := by rw [hX, Int.natCast_mul, Int.natCast_pow]; rfl
          rw [e]; exact u64_wrap (by omega) (by omega)
        rw [← hX] at hUD
        have hm := and_mask (X : Int) (by omega) (by omega)
        have hor : bits .or .u32 (c : Int) ((X : Int) % 4294967296) = (dig (a * 2 ^ n) (k + q) : Int) := by
          have e : ((X : Int) % 4294967296) = ((X % 4294967296 : Nat) : Int) := by omega
          have e2 : c ||| X % 4294967296 = dig (a * 2 ^ n) (k + q) := by rw [hUD.1]; unfold dig; rw [HQ0.out k]
          rw [e, u32_or_nat _ _ (by omega) (by omega), e2]
        have HU : Hid _ := hUD.2
        have HX : Hid _ := hX
        have hdd := dig_lt (a * 2 ^ n) (k + q)
        clear hUD hX hcq hM'
        go_wp2
        go_roundg (La - (k + 1))
        case measure => go_light; omega
        case rel =>
          go_light
          refine ⟨k + 1, X / 4294967296, by omega, rfl, by simp, ?_, HU.out.2, HU.out.1⟩
          exact up_step hR rfl _
      · obtain rfl : k = La := by omega
        have hkz : ¬ (k : Int) < (k : Int) := by omega
        go_wp2_with fail
        refine (trimmed_any w.heap.size M M (a * 2 ^ n) wr (fun i hi => ?_) HL.out hM4 (Nat.le_refl _)).mono ?_
        · rw [hR.row.cell hi]
          have hM' := HM.out
          by_cases h1 : i < k + q
          · rw [if_pos h1]
          · obtain rfl : i = k + q := by omega
            rw [if_neg h1, if_pos rfl]
            have h2 := HQ0.out k
            rw [hcq, quo_end ha.hi, Nat.zero_mul, Nat.zero_add] at h2
            have h2r : 2 ^ r ≤ 2147483648 := Nat.pow_le_pow_right (n := 2) (by decide) (show r ≤ 31 by omega)
            unfold dig
            rw [h2, Nat.mod_eq_of_lt (by omega)]
        rintro e w' ⟨L', C', rfl, hN, rfl⟩
        go_wp2_with fail
        go_ret
        exact ⟨_, rfl, ⟨_, _, _, _, rfl, hN⟩, hR.kept⟩
end Go.Proofs.YtmgpaheobhfioaaDoor
/- What the reference's Down returns of a whole number in memory: it shifted down, and whether something was left. -/
namespace Go.Proofs.YtmgpaheobhfioaaDoor
open Go.RowKit

/-- Is there something in the k lowest bits? -/
def restB (a k : Nat) : Bool := !decide (a % 2 ^ k = 0)
theorem rest_step (a k : Nat) : a % 2 ^ (k + 1) = 2 ^ k * (a / 2 ^ k % 2) + a % 2 ^ k := by
  rw [Nat.pow_succ, Nat.mod_mul, Nat.add_comm]
theorem restB_t {a k : Nat} (h : restB a k = true) : restB a (k + 1) = true := by
  unfold restB at *
  have := rest_step a k
  simp at h ⊢
  omega
theorem restB_f {a k : Nat} (h : restB a k = false) : restB a (k + 1) = ((bitV a k : Int) == 1) := by
  unfold restB bitV at *
  have h1 := rest_step a k
  simp at h
  rw [h, Nat.add_zero] at h1
  have hp := Nat.two_pow_pos k
  rcases (by omega : a / 2 ^ k % 2 = 0 ∨ a / 2 ^ k % 2 = 1) with e | e
  · rw [h1, e]; simp
  · rw [h1, e]; simp
theorem restB_zero (a : Nat) : restB a 0 = false := by unfold restB; rw [Nat.pow_zero, Nat.mod_one]; rfl
theorem restB_all {a k n : Nat} (h : a < 2 ^ k) (hn : k ≤ n) : restB a k = restB a n := by
  unfold restB
  rw [Nat.mod_eq_of_lt h, Nat.mod_eq_of_lt (Nat.lt_of_lt_of_le h (Nat.pow_le_pow_right (by decide) hn))]

/-- One digit of what is shifted down. -/
theorem down_dig {a n q r k : Nat} (hn : n = 32 * q + r) (hr : r < 32) :
    (dig a (k + q) + dig a (k + q + 1) * 4294967296) / 2 ^ r % 4294967296 = dig (a / 2 ^ n) k := by
  unfold dig
  rw [quo_succ]
  have e : a / 2 ^ n / 4294967296 ^ k = a / 4294967296 ^ (k + q) / 2 ^ r := by
    rw [hn, Nat.pow_add 2, ← base_pow, Nat.div_div_eq_div_mul, Nat.div_div_eq_div_mul, Nat.pow_add]
    congr 1
    rw [Nat.mul_comm (4294967296 ^ k), Nat.mul_assoc, Nat.mul_comm (2 ^ r), ← Nat.mul_assoc]
  rw [e]
  generalize a / 4294967296 ^ (k + q) = x
  have e2 : x % 4294967296 + x / 4294967296 % 4294967296 * 4294967296 = x % 18446744073709551616 := by omega
  rw [e2]
  have e3 : 18446744073709551616 = 2 ^ r * (4294967296 * 2 ^ (32 - r)) := by
    rw [show (4294967296 : Nat) = 2 ^ 32 from rfl, ← Nat.pow_add, ← Nat.pow_add, show r + (32 + (32 - r)) = 64 by omega]
  rw [e3, Nat.mod_mul, Nat.mul_comm (2 ^ r), Nat.add_mul_div_right _ _ (Nat.two_pow_pos r), Nat.div_eq_of_lt (Nat.mod_lt _ (Nat.two_pow_pos r)), Nat.zero_add]
  rw [Nat.mod_mod_of_dvd _ ⟨_, rfl⟩]

set_option maxHeartbeats 4000000 in
theorem down_any (va : Value) (a n : Nat) (w : World) (ha : NatAt w va a) (hn : n ≤ 20000) :
    Calls Tryd.prog 76 #[va, .int .i64 n] w fun e w' => ∃ v, e = .returned (.tuple #[v, .bool (restB a n)]) ∧ NatAt w' v (a / 2 ^ n) ∧ Q w w' := by
  have haN := ha
  obtain ⟨pa, ba, La, Ca, rfl, ha⟩ := ha
  have hlen := ha.len
  obtain ⟨q, r, hq, hr⟩ : ∃ q r : Nat, n = 32 * q + r ∧ r < 32 := ⟨n / 32, n % 32, by omega, by omega⟩
  obtain ⟨e1, e2⟩ := i64_quo32 n q r hq hr
  have HN : Hid (n = 32 * q + r) := hq
  have hq6 : q ≤ 625 := by omega
  have hbig : a < 2 ^ (32 * La) := by have := ha.hi; rw [base_pow] at this; exact this
  obtain ⟨N1, hN1⟩ : ∃ N1, N1 = min n (32 * La) := ⟨_, rfl⟩
  have HN1 : Hid _ := hN1
  clear hq
  go_enter Tryd.func76, Tryd.ntmps76
  go_wp2
  go_loopg [6, 7] N1 (fun g s6 s7 wr => wr = w ∧ ∃ k : Nat, k ≤ N1 ∧ g = N1 - k ∧ s6 = .bool (restB a k) ∧ s7 = .int .i64 k)
  case atStart => exact ⟨rfl, 0, Nat.zero_le _, rfl, by rw [restB_zero], rfl⟩
  case round =>
    obtain ⟨rfl, k, hk, rfl, rfl, rfl⟩ := hrel
    by_cases hk1 : k < N1
    · have h1 : (k : Int) < (n : Int) := by omega
      have h2 : (k : Int) < 32 * (La : Int) := by omega
      clear hN1
      cases hb : restB a k
      · have HF : Hid _ := restB_f hb
        go_wp2_with fail
        refine (bit_any _ a k _ haN (by omega)).mono ?_
        rintro e w' ⟨rfl, rfl⟩
        go_wp2_with fail
        go_roundg (N1 - (k + 1))
        case measure => go_light; omega
        case rel => go_light; exact ⟨rfl, k + 1, by omega, rfl, congrArg Value.bool (by rw [HF.out]), by simp⟩
      · have HT : Hid _ := restB_t hb
        go_wp2_with fail
        go_roundg (N1 - (k + 1))
        case measure => go_light; omega
        case rel => go_light; exact ⟨rfl, k + 1, by omega, rfl, congrArg Value.bool (by rw [HT.out]), by simp⟩
    · obtain rfl : k = N1 := by omega
      have hN2 := hN1
      by_cases hge : 32 * La ≤ n
      · have h2 : ¬ (k : Int) < 32 * (La : Int) := by omega
        have h3 : (32 * (La : Int)) ≤ (n : Int) := by omega
        have hz : a / 2 ^ n = 0 := Nat.div_eq_of_lt (Nat.lt_of_lt_of_le hbig (Nat.pow_le_pow_right (by decide) hge))
        have hr1 : restB a k = restB a n := by rw [show k = 32 * La by omega]; exact restB_all hbig hge
        have HZ : Hid _ := hz
        have HR : Hid _ := hr1
        clear hN1 hN2 hr1 hz
        by_cases h1 : k < n
        · have h1z : (k : Int) < (n : Int) := by omega
          go_wp2_with fail
          go_ret2
          exact ⟨_, ret_vb HR.out, by rw [HZ.out]; exact nat_nil _, Q.refl _⟩
        · have h1z : ¬ (k : Int) < (n : Int) := by omega
          go_wp2_with fail
          go_ret2
          exact ⟨_, ret_vb HR.out, by rw [HZ.out]; exact nat_nil _, Q.refl _⟩
      · obtain rfl : k = n := by omega
        have h1 : ¬ (k : Int) < (k : Int) := by omega
        have h3 : ¬ (32 * (La : Int)) ≤ (k : Int) := by omega
        obtain ⟨M, hM, hM0⟩ : ∃ M, La = q + M ∧ 0 < M := ⟨La - q, by have := HN.out; omega, by have := HN.out; omega⟩
        have hMz : (La : Int) - (q : Int) = (M : Int) := by omega
        have hmk := run_make_row' (P := Tryd.prog) 41 36 (.int .u32 0) 4 Tryd.underlying41 info_u32 rfl .i64 .i64 (M) (by omega) (by omega)
        obtain rfl := ha.ptr (by omega)
        have HM : Hid _ := hM
        have hM4 : M ≤ 400 := by omega
        clear hN1 hN2 hM
        go_wp2
        clear hmk
        go_loopg [9] (M) (fun g s9 wx => ∃ i : Nat, i ≤ M ∧ g = M - i ∧ s9 = .int .i64 i ∧ Part wr wx (M) (a / 2 ^ k) i)
        case atStart => exact ⟨0, Nat.zero_le _, rfl, rfl, part_start _ _ _⟩
        case round =>
          obtain ⟨i, hi, rfl, rfl, hP⟩ := hrel
          by_cases hiM : i < M
          · have hz1 : (i : Int) < (M : Int) := by omega
            have hLa := HM.out
            have f1 := part_open hP hiM
            have f2 := hP.row.frozen i
            have c1 := hP.q.cell (ha.cell (i + q) (by omega))
            have d1 := dig_lt a (i + q)
            have d2 := dig_lt a (i + q + 1)
            have hD := down_dig (a := a) (k := i) HN.out hr
            have hor := or_hi _ _ d1 d2
            obtain ⟨X, hX⟩ : ∃ X, X = dig a (i + q) + dig a (i + q + 1) * 4294967296 := ⟨_, rfl⟩
            have hXb : X ≤ 18446744073709551615 := by omega
            have hXd : X / 2 ^ r ≤ X := Nat.div_le_self _ _
            have eX : (X : Int) / 2 ^ r = ((X / 2 ^ r : Nat) : Int) := by rw [Int.natCast_ediv, Int.natCast_pow]; rfl
            have hmask : bits .and .u64 ((X : Int) / 2 ^ r) 4294967295 = (dig (a / 2 ^ k) i : Int) := by
              rw [eX, and_mask ((X / 2 ^ r : Nat) : Int) (Int.natCast_nonneg _) (Int.ofNat_le.2 (Nat.le_trans hXd hXb)), ← hD, ← hX]; rfl
            have dd := dig_lt (a / 2 ^ k) i
            have HX : Hid _ := hX
            by_cases hlast : i + q + 1 < La
            · have hlz : (i : Int) + (q : Int) + 1 < (La : Int) := by omega
              have c2 := hP.q.cell (ha.cell (i + q + 1) hlast)
              rw [← hX] at hor
              have hiq : (i : Int) + (q : Int) < (La : Int) := by omega
              clear hX hD eX hXd hLa
              go_wp2
              go_roundg (M - (i + 1))
              case measure => go_light; omega
              case rel => go_light; exact ⟨i + 1, by omega, rfl, by simp, part_step' hP rfl⟩
            · have hlz : ¬ (i : Int) + (q : Int) + 1 < (La : Int) := by omega
              have d0 := dig_end ha.hi (i := i + q + 1) (by omega)
              have eX2 : X = dig a (i + q) := by rw [hX, d0]; omega
              subst eX2
              have hiq : (i : Int) + (q : Int) < (La : Int) := by omega
              clear hX hD eX hXd d0 hor HX hLa
              go_wp2
              go_roundg (M - (i + 1))
              case measure => go_light; omega
              case rel => go_light; exact ⟨i + 1, by omega, rfl, by simp, part_step' hP rfl⟩
          · obtain rfl : M = i := by omega
            have hz1 : ¬ (M : Int) < (M : Int) := by omega
            go_wp2_with fail
            refine (trimmed_any _ (M) (M) (a / 2 ^ k) _ (part_done hP) ?_ hM4 (Nat.le_refl _)).mono ?_
            · have h1 := ha.hi
              have h2 := HM.out
              have h3 := HN.out
              rw [Nat.div_lt_iff_lt_mul (Nat.two_pow_pos k), base_pow, ← Nat.pow_add]
              exact Nat.lt_of_lt_of_le hbig (Nat.pow_le_pow_right (by decide) (by omega))
            rintro e w' ⟨L', C', rfl, hN, rfl⟩
            go_wp2_with fail
            go_ret2
            exact ⟨_, rfl, ⟨_, _, _, _, rfl, hN⟩, hP.q⟩
end Go.Proofs.YtmgpaheobhfioaaDoor
