/- What the reference's DivNum returns where one of the two is no finite number, or is 0. -/
import Derived.Test.YtjjjgdpgfndbdaaDoorGb07b2f7f
import Derived.Test.YtjjjgdpgfndbdaaDoorGaca99f9f
import Derived.Test.YtjjjgdpgfndbdaaDoorG60411305
namespace Go.Proofs.YtjjjgdpgfndbdaaDoor
open Go.RowKit

set_option maxHeartbeats 4000000 in
set_option maxRecDepth 1000000 in
theorem div_nan1 (va vb : Value) (y : RNum) (w : World) (hx : NumAt w va .nan) (hy : NumAt w vb y) :
    Calls Tryd.prog 92 #[va, vb] w fun e w' => ∃ v, e = .returned v ∧ NumAt w' v .nan ∧ Q w w' := by
  obtain ⟨b, e, m, rfl⟩ := hx
  obtain ⟨k, s, p, L, C, ee, mm, rfl⟩ := hy.made
  clear hy
  go_enter Tryd.func92, Tryd.ntmps92
  go_wp2_with fail
  refine bodyPost_ret (v := .agg #[.int .i64 0, .bool false, .slice none 0 0, .int .i64 0, .bool false]) (by simp [results, Tryd.results92, go_sem]) rfl ⟨_, rfl, ⟨_, _, _, rfl⟩, ?_⟩
  exact (((Q.refl w).cells _ _).cells _ _).cells _ _
set_option maxHeartbeats 4000000 in
set_option maxRecDepth 1000000 in
theorem div_nan2 (va vb : Value) (x : RNum) (w : World) (hx : NumAt w va x) (hy : NumAt w vb .nan) (hk : ∀ k s p L C e m, va = .agg #[.int .i64 k, .bool s, .slice p L C, .int .i64 e, .bool m] → k ≠ 0) :
    Calls Tryd.prog 92 #[va, vb] w fun e w' => ∃ v, e = .returned v ∧ NumAt w' v .nan ∧ Q w w' := by
  obtain ⟨b, e, m, rfl⟩ := hy
  obtain ⟨k, s, p, L, C, ee, mm, rfl⟩ := hx.made
  have hk0 : (k == 0) = false := by simpa using hk _ _ _ _ _ _ _ rfl
  clear hx hk
  go_enter Tryd.func92, Tryd.ntmps92
  go_wp2_with fail
  refine bodyPost_ret (v := .agg #[.int .i64 0, .bool false, .slice none 0 0, .int .i64 0, .bool false]) (by simp [results, Tryd.results92, go_sem]) rfl ⟨_, rfl, ⟨_, _, _, rfl⟩, ?_⟩
  exact (((Q.refl w).cells _ _).cells _ _).cells _ _
set_option maxHeartbeats 4000000 in
set_option maxRecDepth 1000000 in
theorem div_infinf (va vb : Value) (s t : Bool) (w : World) (hx : NumAt w va (.inf s)) (hy : NumAt w vb (.inf t)) :
    Calls Tryd.prog 92 #[va, vb] w fun e w' => ∃ v, e = .returned v ∧ NumAt w' v .nan ∧ Q w w' := by
  obtain ⟨e, m, rfl⟩ := hx
  obtain ⟨e', m', rfl⟩ := hy
  go_enter Tryd.func92, Tryd.ntmps92
  go_wp2_with fail
  refine bodyPost_ret (v := .agg #[.int .i64 0, .bool false, .slice none 0 0, .int .i64 0, .bool false]) (by simp [results, Tryd.results92, go_sem]) rfl ⟨_, rfl, ⟨_, _, _, rfl⟩, ?_⟩
  exact (((Q.refl w).cells _ _).cells _ _).cells _ _
set_option maxHeartbeats 4000000 in
set_option maxRecDepth 1000000 in
theorem div_inffin (va vb : Value) (s t : Bool) (n : Nat) (f : Int) (g : Bool) (w : World) (hx : NumAt w va (.inf s)) (hy : NumAt w vb (.fin t n f g)) :
    Calls Tryd.prog 92 #[va, vb] w fun e w' => ∃ v, e = .returned v ∧ NumAt w' v (.inf (s != t)) ∧ Q w w' := by
  obtain ⟨e, m, rfl⟩ := hx
  obtain ⟨nv, rfl, p, b, L, C, rfl, hn⟩ := hy
  go_enter Tryd.func92, Tryd.ntmps92
  go_wp2_with fail
  refine (zero_any _ (.inf s) _ ⟨_, _, rfl⟩).mono ?_
  rintro x w1 ⟨rfl, c1, rfl⟩
  rw [show zeroB (.inf s) = false from rfl]
  go_wp2_with fail
  refine bodyPost_ret (v := .agg #[.int .i64 1, .bool (s != t), .slice none 0 0, .int .i64 0, .bool false]) (by cases s <;> cases t <;> simp [results, Tryd.results92, go_sem]) rfl ⟨_, rfl, ⟨_, _, rfl⟩, ?_⟩
  exact ((((Q.refl w).cells _ _).cells _ _).cells _ _).cells _ _
set_option maxHeartbeats 4000000 in
set_option maxRecDepth 1000000 in
theorem div_fininf (va vb : Value) (s t : Bool) (n : Nat) (f : Int) (g : Bool) (w : World) (hx : NumAt w va (.fin s n f g)) (hy : NumAt w vb (.inf t)) :
    Calls Tryd.prog 92 #[va, vb] w fun e w' => ∃ v, e = .returned v ∧ NumAt w' v (.fin (s != t) 0 0 false) ∧ Q w w' := by
  obtain ⟨e, m, rfl⟩ := hy
  have HX : Hid _ := hx
  obtain ⟨nv, rfl, p, b, L, C, rfl, hn⟩ := hx
  clear hn
  cases hZ : zeroB (.fin s n f g)
  · have HZ : Hid _ := hZ
    clear hZ
    go_enter Tryd.func92, Tryd.ntmps92
    go_wp2_with fail
    refine (zero_any _ (.fin s n f g) _ (((((Q.refl w).cells _ _).cells _ _).cells _ _) |>.num HX.out)).mono ?_
    rintro x w1 ⟨rfl, c1, rfl⟩
    rw [HZ.out]
    go_wp2_with fail
    refine (zero_any _ (.inf t) _ ⟨_, _, rfl⟩).mono ?_
    rintro x w1 ⟨rfl, c2, rfl⟩
    rw [show zeroB (.inf t) = false from rfl]
    go_wp2_with fail
    refine bodyPost_ret (v := .agg #[.int .i64 2, .bool (s != t), .slice none 0 0, .int .i64 0, .bool false]) (by cases s <;> cases t <;> simp [results, Tryd.results92, go_sem]) rfl ⟨_, rfl, ⟨_, rfl, nat_nil _⟩, ?_⟩
    exact (((((Q.refl w).cells _ _).cells _ _).cells _ _).cells _ _).cells _ _
  · have HZ : Hid _ := hZ
    clear hZ
    go_enter Tryd.func92, Tryd.ntmps92
    go_wp2_with fail
    refine (zero_any _ (.fin s n f g) _ (((((Q.refl w).cells _ _).cells _ _).cells _ _) |>.num HX.out)).mono ?_
    rintro x w1 ⟨rfl, c1, rfl⟩
    rw [HZ.out]
    go_wp2_with fail
    refine (zero_any _ (.inf t) _ ⟨_, _, rfl⟩).mono ?_
    rintro x w1 ⟨rfl, c2, rfl⟩
    rw [show zeroB (.inf t) = false from rfl]
    go_wp2_with fail
    refine (zero_any _ (.inf t) _ ⟨_, _, rfl⟩).mono ?_
    rintro x w1 ⟨rfl, c3, rfl⟩
    rw [show zeroB (.inf t) = false from rfl]
    go_wp2_with fail
    refine bodyPost_ret (v := .agg #[.int .i64 2, .bool (s != t), .slice none 0 0, .int .i64 0, .bool false]) (by cases s <;> cases t <;> simp [results, Tryd.results92, go_sem]) rfl ⟨_, rfl, ⟨_, rfl, nat_nil _⟩, ?_⟩
    exact ((((((Q.refl w).cells _ _).cells _ _).cells _ _).cells _ _).cells _ _).cells _ _
set_option maxHeartbeats 4000000 in
set_option maxRecDepth 1000000 in
theorem div_nought (va vb : Value) (s t : Bool) (n k : Nat) (e f : Int) (g h : Bool) (w : World) (hx : NumAt w va (.fin s n e g)) (hy : NumAt w vb (.fin t k f h)) (hz : zeroB (.fin s n e g) = true ∨ zeroB (.fin t k f h) = true) :
    Calls Tryd.prog 92 #[va, vb] w fun y w' => ∃ v, y = .returned v ∧ NumAt w' v (if zeroB (.fin t k f h) = true then (if zeroB (.fin s n e g) = true then .nan else .inf (s != t)) else .fin (s != t) 0 0 false) ∧ Q w w' := by
  have HX : Hid _ := hx
  have HY : Hid _ := hy
  obtain ⟨nv, rfl, p, b, L, C, rfl, hn⟩ := hx
  obtain ⟨kv, rfl, p', b', L', C', rfl, hk⟩ := hy
  clear hn hk
  cases hA : zeroB (.fin s n e g) <;> cases hB : zeroB (.fin t k f h)
  · rw [hA, hB] at hz; simp at hz
  · have HA : Hid _ := hA
    have HB : Hid _ := hB
    clear hA hB hz
    rw [if_pos rfl, if_neg Bool.false_ne_true]
    go_enter Tryd.func92, Tryd.ntmps92
    go_wp2_with fail
    refine (zero_any _ (.fin s n e g) _ (((((Q.refl w).cells _ _).cells _ _).cells _ _) |>.num HX.out)).mono ?_
    rintro x w1 ⟨rfl, c1, rfl⟩
    rw [HA.out]
    go_wp2_with fail
    refine (zero_any _ (.fin t k f h) _ ((((((Q.refl w).cells _ _).cells _ _).cells _ _).cells _ _) |>.num HY.out)).mono ?_
    rintro x w1 ⟨rfl, c2, rfl⟩
    rw [HB.out]
    go_wp2_with fail
    refine bodyPost_ret (v := .agg #[.int .i64 1, .bool (s != t), .slice none 0 0, .int .i64 0, .bool false]) (by cases s <;> cases t <;> simp [results, Tryd.results92, go_sem]) rfl ⟨_, rfl, ⟨_, _, rfl⟩, ?_⟩
    exact (((((Q.refl w).cells _ _).cells _ _).cells _ _).cells _ _).cells _ _
  · have HA : Hid _ := hA
    have HB : Hid _ := hB
    clear hA hB hz
    rw [if_neg Bool.false_ne_true]
    go_enter Tryd.func92, Tryd.ntmps92
    go_wp2_with fail
    refine (zero_any _ (.fin s n e g) _ (((((Q.refl w).cells _ _).cells _ _).cells _ _) |>.num HX.out)).mono ?_
    rintro x w1 ⟨rfl, c1, rfl⟩
    rw [HA.out]
    go_wp2_with fail
    refine (zero_any _ (.fin t k f h) _ ((((((Q.refl w).cells _ _).cells _ _).cells _ _).cells _ _) |>.num HY.out)).mono ?_
    rintro x w1 ⟨rfl, c2, rfl⟩
    rw [HB.out]
    go_wp2_with fail
    refine (zero_any _ (.fin t k f h) _ (((((((Q.refl w).cells _ _).cells _ _).cells _ _).cells _ _).cells _ _) |>.num HY.out)).mono ?_
    rintro x w1 ⟨rfl, c3, rfl⟩
    rw [HB.out]
    go_wp2_with fail
    refine (zero_any _ (.fin s n e g) _ ((((((((Q.refl w).cells _ _).cells _ _).cells _ _).cells _ _).cells _ _).cells _ _) |>.num HX.out)).mono ?_
    rintro x w1 ⟨rfl, c4, rfl⟩
    rw [HA.out]
    go_wp2_with fail
    refine bodyPost_ret (v := .agg #[.int .i64 2, .bool (s != t), .slice none 0 0, .int .i64 0, .bool false]) (by cases s <;> cases t <;> simp [results, Tryd.results92, go_sem]) rfl ⟨_, rfl, ⟨_, rfl, nat_nil _⟩, ?_⟩
    exact (((((((Q.refl w).cells _ _).cells _ _).cells _ _).cells _ _).cells _ _).cells _ _).cells _ _
  · have HA : Hid _ := hA
    have HB : Hid _ := hB
    clear hA hB hz
    rw [if_pos rfl, if_pos rfl]
    go_enter Tryd.func92, Tryd.ntmps92
    go_wp2_with fail
    refine (zero_any _ (.fin s n e g) _ (((((Q.refl w).cells _ _).cells _ _).cells _ _) |>.num HX.out)).mono ?_
    rintro x w1 ⟨rfl, c1, rfl⟩
    rw [HA.out]
    go_wp2_with fail
    refine (zero_any _ (.fin t k f h) _ ((((((Q.refl w).cells _ _).cells _ _).cells _ _).cells _ _) |>.num HY.out)).mono ?_
    rintro x w1 ⟨rfl, c2, rfl⟩
    rw [HB.out]
    go_wp2_with fail
    refine bodyPost_ret (v := .agg #[.int .i64 0, .bool false, .slice none 0 0, .int .i64 0, .bool false]) (by simp [results, Tryd.results92, go_sem]) rfl ⟨_, rfl, ⟨_, _, _, rfl⟩, ?_⟩
    exact (((((Q.refl w).cells _ _).cells _ _).cells _ _).cells _ _).cells _ _
end Go.Proofs.YtjjjgdpgfndbdaaDoor
/- What the reference's Add, Scale and Half return of whatever samples: the exact number, rounded. -/
namespace Go.Proofs.YtjjjgdpgfndbdaaDoor
open Go.RowKit

/-- Numbers of middling size. -/
def mid : RNum → Prop
  | ⟨some (.inr (_, n, e, m))⟩ => blen n ≤ 1000 ∧ -1000 ≤ e ∧ e ≤ 1000 ∧ m = false
  | _ => True
theorem mid_small {x : RNum} (h : mid x) : small x := by
  cases x using RNum.rec3 with
  | fin s n e m => exact ⟨by have := h.1; omega, by have := h.2.1; omega, by have := h.2.2.1; omega⟩
  | nan => exact trivial
  | inf s => exact trivial
theorem numOf_cases (b : Nat) : numOf Ieee.single b = .nan ∨ (∃ s, numOf Ieee.single b = .inf s) ∨ ∃ s n e, numOf Ieee.single b = .fin s n e false ∧ n < 16777216 ∧ -149 ≤ e ∧ e ≤ 104 := by
  have hx : b / 8388608 % 256 < 256 := Nat.mod_lt _ (by decide)
  by_cases h1 : b / 8388608 % 256 = 255
  · by_cases h2 : b % 8388608 = 0
    · exact Or.inr (Or.inl ⟨_, numOf_inf h1 h2⟩)
    · exact Or.inl (numOf_nan h1 h2)
  · by_cases h3 : b / 8388608 % 256 = 0
    · exact Or.inr (Or.inr ⟨_, _, _, numOf_small h3, by omega, by omega, by omega⟩)
    · exact Or.inr (Or.inr ⟨_, _, _, numOf_norm h3 h1, by omega, by omega, by omega⟩)
theorem numOf_mid (b : Nat) : mid (numOf Ieee.single b) := by
  rcases numOf_cases b with h | ⟨s, h⟩ | ⟨s, n, e, h, hn, h0, h1⟩
  · rw [h]; exact trivial
  · rw [h]; exact trivial
  · rw [h]
    have : blen n ≤ 24 := blen_le hn
    exact ⟨by omega, by omega, by omega, rfl⟩
theorem blen_shifted {k : Nat} (n d : Nat) (h : blen n + d ≤ k) : blen (n * 2 ^ d) ≤ k := blen_le (shifted_lt n d h)
theorem plusFin_fits {s t : Bool} {x y : Nat} {b : Int} (hx : blen x ≤ 3000) (hy : blen y ≤ 3000) (b0 : -1000 ≤ b) (b1 : b ≤ 1000) : fits (plusFin s t x y b) := by
  have gx := blen_lt x
  have gy := blen_lt y
  obtain ⟨j, hj⟩ : ∃ j, j = 3000 := ⟨_, rfl⟩
  have px : 2 ^ blen x ≤ 2 ^ j := Nat.pow_le_pow_right (by decide) (by omega)
  have py : 2 ^ blen y ≤ 2 ^ j := Nat.pow_le_pow_right (by decide) (by omega)
  have key : ∀ z, z ≤ x + y → blen z ≤ 6000 := fun z hz => by
    have : z < 2 ^ (j + 1) := by rw [Nat.pow_succ]; omega
    have := blen_le this
    omega
  unfold plusFin
  split
  · exact ⟨key _ (by omega), by omega, by omega, fun h => by cases h⟩
  · split
    · exact ⟨key _ (by omega), by omega, by omega, fun h => by cases h⟩
    · split
      · exact ⟨key _ (by omega), by omega, by omega, fun h => by cases h⟩
      · exact ⟨key _ (by omega), by omega, by omega, fun h => by cases h⟩
theorem plusR_fits {x y : RNum} (hx : mid x) (hy : mid y) : fits (plusR x y) := by
  cases x using RNum.rec3 with
  | nan => exact trivial
  | inf s =>
    cases y using RNum.rec3 with
    | nan => exact trivial
    | inf t => show fits (if s = t then .inf s else .nan); split <;> exact trivial
    | fin t k f g => exact trivial
  | fin s n e m =>
    cases y using RNum.rec3 with
    | nan => exact trivial
    | inf t => exact trivial
    | fin t k f g =>
      obtain ⟨n1, e0, e1, _⟩ := hx
      obtain ⟨k1, f0, f1, _⟩ := hy
      refine plusFin_fits ?_ ?_ (by omega) (by omega)
      · exact blen_shifted n _ (by omega)
      · exact blen_shifted k _ (by omega)

set_option maxHeartbeats 2000000 in
theorem radd_any (a b : Nat) (w : World) (ha : a < 4294967296) (hb : b < 4294967296) :
    Calls Tryd.prog 38 #[.int .u32 a, .int .u32 b] w fun e w' => e = .returned (.int .u32 (roundR (plusR (numOf Ieee.single a) (numOf Ieee.single b)) : Int)) ∧ Q w w' := by
  go_enter Tryd.func38, Tryd.ntmps38
  go_wp2_with fail
  refine (num_any a _ ha).mono ?_
  rintro e w1 ⟨v1, rfl, hv1, q1⟩
  go_wp2_with fail
  refine (num_any b _ hb).mono ?_
  rintro e w2 ⟨v2, rfl, hv2, q2⟩
  go_wp2_with fail
  refine (plusnum_any v1 v2 _ _ _ (q2.num hv1) hv2 (mid_small (numOf_mid a)) (mid_small (numOf_mid b))).mono ?_
  rintro e w3 ⟨v3, rfl, hv3, q3⟩
  go_wp2_with fail
  refine (rbits_any v3 _ _ hv3 (plusR_fits (numOf_mid a) (numOf_mid b))).mono ?_
  rintro e w4 ⟨rfl, q4⟩
  go_wp2_with fail
  go_ret
  exact ⟨rfl, ((q1.trans q2).trans q3).trans q4⟩

/-- Times 2^d. -/
def scaleR (d : Int) : RNum → RNum
  | ⟨some (.inr (s, n, e, m))⟩ => .fin s n (e + d) m
  | x => x
theorem scaleR_fits {x : RNum} {d : Int} (h : mid x) (d0 : -1000 ≤ d) (d1 : d ≤ 1000) : fits (scaleR d x) := by
  cases x using RNum.rec3 with
  | nan => exact trivial
  | inf s => exact trivial
  | fin s n e m =>
    obtain ⟨n1, e0, e1, hm⟩ := h
    exact ⟨by omega, by omega, by omega, fun g => by rw [hm] at g; cases g⟩

end Go.Proofs.YtjjjgdpgfndbdaaDoor
/- Plain facts: the reference's exact sums and products, rounded, are those of the model's arithmetic. -/
namespace Go.Proofs.YtjjjgdpgfndbdaaDoor
open Go.RowKit

/-- A datum as a number of the reference. -/
def datumR : Ieee.Datum → RNum
  | .nan .. => .nan
  | .infinity s => .inf s
  | .number s m p => .fin s m p false
theorem numOf_datum (f : Ieee.Format) (b : Nat) : numOf f b = datumR (f.read b) := by
  unfold numOf datumR; cases f.read b <;> rfl

theorem roundR_fin (s : Bool) (n : Nat) (e : Int) : roundR (.fin s n e false) = Ieee.single.nearest s n e := by
  show Ieee.single.word s (rungOf Ieee.single (2 * n + 0) (e - 1)) = _
  rw [nearest_rung, Nat.add_zero]
  have := rung_scale Ieee.single n 1 (e - 1)
  rw [Nat.pow_one, Nat.mul_comm n 2] at this
  rw [this, show e - 1 + ((1 : Nat) : Int) = e by omega]

theorem plusFin_sum (s t : Bool) (X Y : Nat) (b : Int) :
    roundR (plusFin s t X Y b) = Ieee.single.nearest (if (if s = true then -(X : Int) else X) + (if t = true then -(Y : Int) else Y) = 0 then s && t else decide ((if s = true then -(X : Int) else X) + (if t = true then -(Y : Int) else Y) < 0))
      ((if s = true then -(X : Int) else X) + (if t = true then -(Y : Int) else Y)).natAbs b := by
  unfold plusFin
  by_cases h : s = t
  · subst h
    rw [if_pos rfl, roundR_fin]
    cases s
    · simp only [Bool.false_eq_true, if_false]
      have e1 : ((X : Int) + (Y : Int)).natAbs = X + Y := by omega
      rw [e1]
      by_cases h0 : (X : Int) + (Y : Int) = 0
      · rw [if_pos h0]; rfl
      · rw [if_neg h0, decide_eq_false (by omega)]
    · simp only [if_true]
      have e1 : (-(X : Int) + -(Y : Int)).natAbs = X + Y := by omega
      rw [e1]
      by_cases h0 : -(X : Int) + -(Y : Int) = 0
      · rw [if_pos h0]; rfl
      · rw [if_neg h0, decide_eq_true (by omega)]
  · rw [if_neg h]
    cases s <;> cases t <;> simp only [Bool.false_eq_true, if_false, if_true]
    · exact absurd rfl h
    · by_cases hxy : X = Y
      · rw [if_pos hxy, roundR_fin, if_pos (by omega : (X : Int) + -(Y : Int) = 0)]
        congr 1; omega
      · rw [if_neg hxy]
        by_cases hlt : Y < X
        · rw [if_pos hlt, roundR_fin, if_neg (by omega : ¬ (X : Int) + -(Y : Int) = 0), decide_eq_false (by omega)]
          congr 1; omega
        · rw [if_neg hlt, roundR_fin, if_neg (by omega : ¬ (X : Int) + -(Y : Int) = 0), decide_eq_true (by omega)]
          congr 1; omega
    · by_cases hxy : X = Y
      · rw [if_pos hxy, roundR_fin, if_pos (by omega : -(X : Int) + (Y : Int) = 0)]
        congr 1; omega
      · rw [if_neg hxy]
        by_cases hlt : Y < X
        · rw [if_pos hlt, roundR_fin, if_neg (by omega : ¬ -(X : Int) + (Y : Int) = 0), decide_eq_true (by omega)]
          congr 1; omega
        · rw [if_neg hlt, roundR_fin, if_neg (by omega : ¬ -(X : Int) + (Y : Int) = 0), decide_eq_false (by omega)]
          congr 1; omega
    · exact absurd rfl h

theorem signed_eq (s : Bool) (m k : Nat) : Ieee.signed s m k = if s = true then -((m * 2 ^ k : Nat) : Int) else ((m * 2 ^ k : Nat) : Int) := by
  unfold Ieee.signed; rw [Nat.shiftLeft_eq]

/-- Sums. -/
theorem plus_link (d d' : Ieee.Datum) : roundR (plusR (datumR d) (datumR d')) = toldD (d.sum d') := by
  cases d with
  | nan s t => cases d' <;> rfl
  | infinity s =>
    cases d' with
    | nan t f => rfl
    | infinity t =>
      show roundR (if s = t then .inf s else .nan) = toldD (if s = t then some (.infinity s) else none)
      by_cases h : s = t
      · rw [if_pos h, if_pos h]; show Ieee.single.word s 2139095040 = Ieee.single.word s Ieee.single.infRung; rw [single_inf]
      · rw [if_neg h, if_neg h]; rfl
    | number t n j => show Ieee.single.word s 2139095040 = Ieee.single.word s Ieee.single.infRung; rw [single_inf]
  | number s m i =>
    cases d' with
    | nan t f => rfl
    | infinity t => show Ieee.single.word t 2139095040 = Ieee.single.word t Ieee.single.infRung; rw [single_inf]
    | number t n j =>
      show roundR (plusFin s t (m * 2 ^ (i - min i j).toNat) (n * 2 ^ (j - min i j).toNat) (min i j)) = Ieee.single.nearest _ _ _
      rw [plusFin_sum, signed_eq, signed_eq]
end Go.Proofs.YtjjjgdpgfndbdaaDoor
/- What the reference's Mul, Fma and Sub return of whatever samples: the exact number, rounded. -/
namespace Go.Proofs.YtjjjgdpgfndbdaaDoor
open Go.RowKit

/-- Numbers of a few hundred digits at most. -/
def few : RNum → Prop
  | ⟨some (.inr (_, n, e, m))⟩ => blen n ≤ 500 ∧ -500 ≤ e ∧ e ≤ 500 ∧ m = false
  | _ => True
theorem few_mid {x : RNum} (h : few x) : mid x := by
  cases x using RNum.rec3 with
  | fin s n e m => exact ⟨by have := h.1; omega, by have := h.2.1; omega, by have := h.2.2.1; omega, h.2.2.2⟩
  | nan => exact trivial
  | inf s => exact trivial
theorem numOf_few (b : Nat) : few (numOf Ieee.single b) := by
  rcases numOf_cases b with h | ⟨s, h⟩ | ⟨s, n, e, h, hn, h0, h1⟩
  · rw [h]; exact trivial
  · rw [h]; exact trivial
  · rw [h]
    have : blen n ≤ 24 := blen_le hn
    exact ⟨by omega, by omega, by omega, rfl⟩

theorem timesnum_any (va vb : Value) (x y : RNum) (w : World) (hx : NumAt w va x) (hy : NumAt w vb y) (fx : few x) (fy : few y) :
    Calls Tryd.prog 51 #[va, vb] w fun e w' => ∃ v, e = .returned v ∧ NumAt w' v (timesR x y) ∧ Q w w' := by
  cases x using RNum.rec3 with
  | nan => exact times_nan1 va vb y w hx hy
  | inf s =>
    cases y using RNum.rec3 with
    | nan => exact times_nan2 va vb _ w hx hy (fun k s' p L C e m h => by
        obtain ⟨e', m', h'⟩ := hx
        rw [h'] at h
        intro hk
        rw [hk] at h
        simp at h)
    | inf t => exact times_infinf va vb s t w hx hy
    | fin t n f g => exact times_inffin va vb s t n f g w hx hy
  | fin s n e m =>
    cases y using RNum.rec3 with
    | nan => exact times_nan2 va vb _ w hx hy (fun k s' p L C e' m' h => by
        obtain ⟨nv, h', hn⟩ := hx
        rw [h'] at h
        intro hk
        rw [hk] at h
        simp at h)
    | inf t => exact times_fininf va vb s t n e m w hx hy
    | fin t k f g =>
      obtain ⟨nv, rfl, hn⟩ := hx
      obtain ⟨kv, rfl, hk⟩ := hy
      exact times_fin s t m g nv kv n k e f w hn hk fx.1 (by have := fx.2.1; omega) (by have := fx.2.2.1; omega) fy.1 (by have := fy.2.1; omega) (by have := fy.2.2.1; omega)
theorem timesR_mid {x y : RNum} (fx : few x) (fy : few y) : mid (timesR x y) := by
  cases x using RNum.rec3 with
  | nan => exact trivial
  | inf s =>
    cases y using RNum.rec3 with
    | nan => exact trivial
    | inf t => exact trivial
    | fin t n f g => show mid (if zeroB (.fin t n f g) = true then .nan else .inf (s != t)); split <;> exact trivial
  | fin s n e m =>
    cases y using RNum.rec3 with
    | nan => exact trivial
    | inf t => show mid (if zeroB (.fin s n e m) = true then .nan else .inf (s != t)); split <;> exact trivial
    | fin t k f g =>
      obtain ⟨a1, a2, a3, _⟩ := fx
      obtain ⟨b1, b2, b3, _⟩ := fy
      refine ⟨?_, by omega, by omega, rfl⟩
      have h2 : n * k < 2 ^ blen n * 2 ^ blen k := Nat.mul_lt_mul_of_lt_of_lt (blen_lt n) (blen_lt k)
      rw [← Nat.pow_add] at h2
      have := blen_le h2
      omega
theorem mid_fits {x : RNum} (h : mid x) : fits x := by
  cases x using RNum.rec3 with
  | nan => exact trivial
  | inf s => exact trivial
  | fin s n e m =>
    obtain ⟨a1, a2, a3, hm⟩ := h
    exact ⟨by omega, by omega, by omega, fun g => by rw [hm] at g; cases g⟩

/-- The other sign. -/
def oppR : RNum → RNum
  | ⟨none⟩ => .nan
  | ⟨some (.inl s)⟩ => .inf !s
  | ⟨some (.inr (s, n, e, m))⟩ => .fin (!s) n e m
theorem opp_mid {x : RNum} (h : mid x) : mid (oppR x) := by cases x using RNum.rec3 <;> exact h

theorem opp_num {w : World} {x : RNum} {k : Int} {s : Bool} {nv : Value} {e : Int} {m : Bool} (h : NumAt w (.agg #[.int .i64 k, .bool s, nv, .int .i64 e, .bool m]) x) : NumAt w (.agg #[.int .i64 k, .bool !s, nv, .int .i64 e, .bool m]) (oppR x) := by
  cases x using RNum.rec3 with
  | nan =>
    obtain ⟨b, e', m', h⟩ := h
    simp at h
    obtain ⟨rfl, rfl, rfl, rfl, rfl⟩ := h
    exact ⟨_, _, _, rfl⟩
  | inf t =>
    obtain ⟨e', m', h⟩ := h
    simp at h
    obtain ⟨rfl, rfl, rfl, rfl, rfl⟩ := h
    exact ⟨_, _, rfl⟩
  | fin t n f g =>
    obtain ⟨nv', h, hn⟩ := h
    simp at h
    obtain ⟨rfl, rfl, rfl, rfl, rfl⟩ := h
    exact ⟨_, rfl, hn⟩

set_option maxHeartbeats 4000000 in
theorem rsub_any (a b : Nat) (w : World) (ha : a < 4294967296) (hb : b < 4294967296) :
    Calls Tryd.prog 45 #[.int .u32 a, .int .u32 b] w fun e w' => e = .returned (.int .u32 (roundR (plusR (numOf Ieee.single a) (oppR (numOf Ieee.single b))) : Int)) ∧ Q w w' := by
  obtain ⟨R, hR⟩ : ∃ R, R = roundR (plusR (numOf Ieee.single a) (oppR (numOf Ieee.single b))) := ⟨_, rfl⟩
  have HR : Hid _ := hR
  rw [← hR]
  clear hR
  go_enter Tryd.func45, Tryd.ntmps45
  go_wp2_with fail
  refine (num_any b _ hb).mono ?_
  rintro x w1 ⟨v1, rfl, hv1, q1⟩
  obtain ⟨k, s, p, L, C, ee, m, rfl⟩ := hv1.made
  have HV : Hid _ := opp_num hv1
  clear hv1
  go_wp2_with fail
  go_region_held3 (fun w' => w'.cell? ⟨w1.heap.size, 0, none⟩ = some (.int .i64 k) ∧ w'.cell? ⟨w1.heap.size, 1, none⟩ = some (.bool !s) ∧ w'.cell? ⟨w1.heap.size, 2, none⟩ = some (.slice p L C) ∧ w'.cell? ⟨w1.heap.size, 3, none⟩ = some (.int .i64 ee) ∧ w'.cell? ⟨w1.heap.size, 4, none⟩ = some (.bool m)) (first | (refine ⟨?_, ?_, ?_, ?_, ?_⟩ <;> assumption) | (simp [go_sem]; done)) (first | (go_at_call 68; refine (num_any a _ ha).mono ?_; rintro x w2 ⟨v2, rfl, hv2, q2⟩; have d0 : w2.cell? ⟨w1.heap.size, 0, none⟩ = some (.int .i64 k) := q2.cell (by simp [go_sem]); have d1 : w2.cell? ⟨w1.heap.size, 1, none⟩ = some (.bool !s) := q2.cell (by simp [go_sem]); have d2 : w2.cell? ⟨w1.heap.size, 2, none⟩ = some (.slice p L C) := q2.cell (by simp [go_sem]); have d3 : w2.cell? ⟨w1.heap.size, 3, none⟩ = some (.int .i64 ee) := q2.cell (by simp [go_sem]); have d4 : w2.cell? ⟨w1.heap.size, 4, none⟩ = some (.bool m) := q2.cell (by simp [go_sem])) | (go_at_call 67; refine (plusnum_any _ _ _ _ _ hv2 (Q.num (((Q.refl w1).cells _ _).drew.trans q2) HV.out) (mid_small (numOf_mid a)) (mid_small (opp_mid (numOf_mid b)))).mono ?_; rintro x w3 ⟨v3, rfl, hv3, q3⟩; have f0 := q3.cell d0; have f1 := q3.cell d1; have f2 := q3.cell d2; have f3 := q3.cell d3; have f4 := q3.cell d4) | (go_at_call 66; refine (rbits_any _ _ _ hv3 (plusR_fits (numOf_mid a) (opp_mid (numOf_mid b)))).mono ?_; rintro x w4 ⟨rfl, q4⟩; have l0 := q4.cell f0; have l1 := q4.cell f1; have l2 := q4.cell f2; have l3 := q4.cell f3; have l4 := q4.cell f4; rw [← HR.out]))
  all_goals
    go_wp2_with fail
    go_ret
    exact ⟨rfl, ((((q1.cells _ _).drew).trans q2).trans q3).trans q4⟩

/-- Products. -/
theorem times_link (d d' : Ieee.Datum) : roundR (timesR (datumR d) (datumR d')) = toldD (d.product d') := by
  cases d with
  | nan s t => cases d' <;> rfl
  | infinity s =>
    cases d' with
    | nan t f => rfl
    | infinity t =>
      show Ieee.single.word (s != t) 2139095040 = Ieee.single.word (s ^^ t) Ieee.single.infRung
      cases s <;> cases t <;> rw [single_inf] <;> rfl
    | number t n j =>
      show roundR (if (decide (n = 0) && !false) = true then .nan else .inf (s != t)) = toldD (if n = 0 then none else some (.infinity (s ^^ t)))
      by_cases h : n = 0
      · rw [if_pos h, if_pos (by simp [h])]; rfl
      · rw [if_neg h, if_neg (by simp [h])]
        show Ieee.single.word (s != t) 2139095040 = Ieee.single.word (s ^^ t) Ieee.single.infRung
        cases s <;> cases t <;> rw [single_inf] <;> rfl
  | number s m i =>
    cases d' with
    | nan t f => rfl
    | infinity t =>
      show roundR (if (decide (m = 0) && !false) = true then .nan else .inf (s != t)) = toldD (if m = 0 then none else some (.infinity (t ^^ s)))
      by_cases h : m = 0
      · rw [if_pos h, if_pos (by simp [h])]; rfl
      · rw [if_neg h, if_neg (by simp [h])]
        show Ieee.single.word (s != t) 2139095040 = Ieee.single.word (t ^^ s) Ieee.single.infRung
        cases s <;> cases t <;> rw [single_inf] <;> rfl
    | number t n j =>
      show roundR (.fin (s != t) (m * n) (i + j) false) = Ieee.single.nearest (s ^^ t) (m * n) (i + j)
      cases s <;> cases t <;> rw [roundR_fin] <;> rfl
theorem opp_link (d : Ieee.Datum) : oppR (datumR d) = datumR d.opposite := by cases d <;> rfl
end Go.Proofs.YtjjjgdpgfndbdaaDoor
