/- What the reference's DivNum returns where one of the two is no finite number, or is 0. -/
import Derived.Test.YtjjjgdpgfndbdaaDoorGf7a8dc0c
import Derived.Test.YtjjjgdpgfndbdaaDoorG3f806c1f
namespace Go.Proofs.YtjjjgdpgfndbdaaDoor
open Go.RowKit

set_option maxHeartbeats 4000000 in
set_option maxRecDepth 1000000 in
theorem div_nan1 (va vb : Value) (y : RNum) (w : World) (hx : NumAt w va .nan) (hy : NumAt w vb y) :
    Calls Tryd.prog 92 #[va, vb] w fun e w' => ∃ v, e = .returned v ∧ NumAt w' v .nan ∧ Q w w' := by
  obtain ⟨b, e, m, rfl⟩ := hx
  obtain ⟨k, s, p, L, C, ee, mm, rfl⟩ := hy.made
  clear hy
  go_enter Tryd.func92, Tryd.ntmps92
  go_wp2_with fail
  refine bodyPost_ret (v := .agg #[.int .i64 0, .bool false, .slice none 0 0, .int .i64 0, .bool false]) (by simp [results, Tryd.results92, go_sem]) rfl ⟨_, rfl, ⟨_, _, _, rfl⟩, ?_⟩
  exact (((Q.refl w).cells _ _).cells _ _).cells _ _
set_option maxHeartbeats 4000000 in
set_option maxRecDepth 1000000 in
theorem div_nan2 (va vb : Value) (x : RNum) (w : World) (hx : NumAt w va x) (hy : NumAt w vb .nan) (hk : ∀ k s p L C e m, va = .agg #[.int .i64 k, .bool s, .slice p L C, .int .i64 e, .bool m] → k ≠ 0) :
    Calls Tryd.prog 92 #[va, vb] w fun e w' => ∃ v, e = .returned v ∧ NumAt w' v .nan ∧ Q w w' := by
  obtain ⟨b, e, m, rfl⟩ := hy
  obtain ⟨k, s, p, L, C, ee, mm, rfl⟩ := hx.made
  have hk0 : (k == 0) = false := by simpa using hk _ _ _ _ _ _ _ rfl
  clear hx hk
  go_enter Tryd.func92, Tryd.ntmps92
  go_wp2_with fail
  refine bodyPost_ret (v := .agg #[.int .i64 0, .bool false, .slice none 0 0, .int .i64 0, .bool false]) (by simp [results, Tryd.results92, go_sem]) rfl ⟨_, rfl, ⟨_, _, _, rfl⟩, ?_⟩
  exact (((Q.refl w).cells _ _).cells _ _).cells _ _
set_option maxHeartbeats 4000000 in
set_option maxRecDepth 1000000 in
theorem div_infinf (va vb : Value) (s t : Bool) (w : World) (hx : NumAt w va (.inf s)) (hy : NumAt w vb (.inf t)) :
    Calls Tryd.prog 92 #[va, vb] w fun e w' => ∃ v, e = .returned v ∧ NumAt w' v .nan ∧ Q w w' := by
  obtain ⟨e, m, rfl⟩ := hx
  obtain ⟨e', m', rfl⟩ := hy
  go_enter Tryd.func92, Tryd.ntmps92
  go_wp2_with fail
  refine bodyPost_ret (v := .agg #[.int .i64 0, .bool false, .slice none 0 0, .int .i64 0, .bool false]) (by simp [results, Tryd.results92, go_sem]) rfl ⟨_, rfl, ⟨_, _, _, rfl⟩, ?_⟩
  exact (((Q.refl w).cells _ _).cells _ _).cells _ _
set_option maxHeartbeats 4000000 in
set_option maxRecDepth 1000000 in
theorem div_inffin (va vb : Value) (s t : Bool) (n : Nat) (f : Int) (g : Bool) (w : World) (hx : NumAt w va (.inf s)) (hy : NumAt w vb (.fin t n f g)) :
    Calls Tryd.prog 92 #[va, vb] w fun e w' => ∃ v, e = .returned v ∧ NumAt w' v (.inf (s != t)) ∧ Q w w' := by
  obtain ⟨e, m, rfl⟩ := hx
  obtain ⟨nv, rfl, p, b, L, C, rfl, hn⟩ := hy
  go_enter Tryd.func92, Tryd.ntmps92
  go_wp2_with fail
  refine (zero_any _ (.inf s) _ ⟨_, _, rfl⟩).mono ?_
  rintro x w1 ⟨rfl, c1, rfl⟩
  rw [show zeroB (.inf s) = false from rfl]
  go_wp2_with fail
  refine bodyPost_ret (v := .agg #[.int .i64 1, .bool (s != t), .slice none 0 0, .int .i64 0, .bool false]) (by cases s <;> cases t <;> simp [results, Tryd.results92, go_sem]) rfl ⟨_, rfl, ⟨_, _, rfl⟩, ?_⟩
  exact ((((Q.refl w).cells _ _).cells _ _).cells _ _).cells _ _
set_option maxHeartbeats 4000000 in
set_option maxRecDepth 1000000 in
theorem div_fininf (va vb : Value) (s t : Bool) (n : Nat) (f : Int) (g : Bool) (w : World) (hx : NumAt w va (.fin s n f g)) (hy : NumAt w vb (.inf t)) :
    Calls Tryd.prog 92 #[va, vb] w fun e w' => ∃ v, e = .returned v ∧ NumAt w' v (.fin (s != t) 0 0 false) ∧ Q w w' := by
  obtain ⟨e, m, rfl⟩ := hy
  have HX : Hid _ := hx
  obtain ⟨nv, rfl, p, b, L, C, rfl, hn⟩ := hx
  clear hn
  cases hZ : zeroB (.fin s n f g)
  · have HZ : Hid _ := hZ
    clear hZ
    go_enter Tryd.func92, Tryd.ntmps92
    go_wp2_with fail
    refine (zero_any _ (.fin s n f g) _ (((((Q.refl w).cells _ _).cells _ _).cells _ _) |>.num HX.out)).mono ?_
    rintro x w1 ⟨rfl, c1, rfl⟩
    rw [HZ.out]
    go_wp2_with fail
    refine (zero_any _ (.inf t) _ ⟨_, _, rfl⟩).mono ?_
    rintro x w1 ⟨rfl, c2, rfl⟩
    rw [show zeroB (.inf t) = false from rfl]
    go_wp2_with fail
    refine bodyPost_ret (v := .agg #[.int .i64 2, .bool (s != t), .slice none 0 0, .int .i64 0, .bool false]) (by cases s <;> cases t <;> simp [results, Tryd.results92, go_sem]) rfl ⟨_, rfl, ⟨_, rfl, nat_nil _⟩, ?_⟩
    exact (((((Q.refl w).cells _ _).cells _ _).cells _ _).cells _ _).cells _ _
  · have HZ : Hid _ := hZ
    clear hZ
    go_enter Tryd.func92, Tryd.ntmps92
    go_wp2_with fail
    refine (zero_any _ (.fin s n f g) _ (((((Q.refl w).cells _ _).cells _ _).cells _ _) |>.num HX.out)).mono ?_
    rintro x w1 ⟨rfl, c1, rfl⟩
    rw [HZ.out]
    go_wp2_with fail
    refine (zero_any _ (.inf t) _ ⟨_, _, rfl⟩).mono ?_
    rintro x w1 ⟨rfl, c2, rfl⟩
    rw [show zeroB (.inf t) = false from rfl]
    go_wp2_with fail
    refine (zero_any _ (.inf t) _ ⟨_, _, rfl⟩).mono ?_
    rintro x w1 ⟨rfl, c3, rfl⟩
    rw [show zeroB (.inf t) = false from rfl]
    go_wp2_with fail
    refine bodyPost_ret (v := .agg #[.int .i64 2, .bool (s != t), .slice none 0 0, .int .i64 0, .bool false]) (by cases s <;> cases t <;> simp [results, Tryd.results92, go_sem]) rfl ⟨_, rfl, ⟨_, rfl, nat_nil _⟩, ?_⟩
    exact ((((((Q.refl w).cells _ _).cells _ _).cells _ _).cells _ _).cells _ _).cells _ _
set_option maxHeartbeats 4000000 in
set_option maxRecDepth 1000000 in
theorem div_nought (va vb : Value) (s t : Bool) (n k : Nat) (e f : Int) (g h : Bool) (w : World) (hx : NumAt w va (.fin s n e g)) (hy : NumAt w vb (.fin t k f h)) (hz : zeroB (.fin s n e g) = true ∨ zeroB (.fin t k f h) = true) :
    Calls Tryd.prog 92 #[va, vb] w fun y w' => ∃ v, y = .returned v ∧ NumAt w' v (if zeroB (.fin t k f h) = true then (if zeroB (.fin s n e g) = true then .nan else .inf (s != t)) else .fin (s != t) 0 0 false) ∧ Q w w' := by
  have HX : Hid _ := hx
  have HY : Hid _ := hy
  obtain ⟨nv, rfl, p, b, L, C, rfl, hn⟩ := hx
  obtain ⟨kv, rfl, p', b', L', C', rfl, hk⟩ := hy
  clear hn hk
  cases hA : zeroB (.fin s n e g) <;> cases hB : zeroB (.fin t k f h)
  · rw [hA, hB] at hz; simp at hz
  · have HA : Hid _ := hA
    have HB : Hid _ := hB
    clear hA hB hz
    rw [if_pos rfl, if_neg Bool.false_ne_true]
    go_enter Tryd.func92, Tryd.ntmps92
    go_wp2_with fail
    refine (zero_any _ (.fin s n e g) _ (((((Q.refl w).cells _ _).cells _ _).cells _ _) |>.num HX.out)).mono ?_
    rintro x w1 ⟨rfl, c1, rfl⟩
    rw [HA.out]
    go_wp2_with fail
    refine (zero_any _ (.fin t k f h) _ ((((((Q.refl w).cells _ _).cells _ _).cells _ _).cells _ _) |>.num HY.out)).mono ?_
    rintro x w1 ⟨rfl, c2, rfl⟩
    rw [HB.out]
    go_wp2_with fail
    refine bodyPost_ret (v := .agg #[.int .i64 1, .bool (s != t), .slice none 0 0, .int .i64 0, .bool false]) (by cases s <;> cases t <;> simp [results, Tryd.results92, go_sem]) rfl ⟨_, rfl, ⟨_, _, rfl⟩, ?_⟩
    exact (((((Q.refl w).cells _ _).cells _ _).cells _ _).cells _ _).cells _ _
  · have HA : Hid _ := hA
    have HB : Hid _ := hB
    clear hA hB hz
    rw [if_neg Bool.false_ne_true]
    go_enter Tryd.func92, Tryd.ntmps92
    go_wp2_with fail
    refine (zero_any _ (.fin s n e g) _ (((((Q.refl w).cells _ _).cells _ _).cells _ _) |>.num HX.out)).mono ?_
    rintro x w1 ⟨rfl, c1, rfl⟩
    rw [HA.out]
    go_wp2_with fail
    refine (zero_any _ (.fin t k f h) _ ((((((Q.refl w).cells _ _).cells _ _).cells _ _).cells _ _) |>.num HY.out)).mono ?_
    rintro x w1 ⟨rfl, c2, rfl⟩
    rw [HB.out]
    go_wp2_with fail
    refine (zero_any _ (.fin t k f h) _ (((((((Q.refl w).cells _ _).cells _ _).cells _ _).cells _ _).cells _ _) |>.num HY.out)).mono ?_
    rintro x w1 ⟨rfl, c3, rfl⟩
    rw [HB.out]
    go_wp2_with fail
    refine (zero_any _ (.fin s n e g) _ ((((((((Q.refl w).cells _ _).cells _ _).cells _ _).cells _ _).cells _ _).cells _ _) |>.num HX.out)).mono ?_
    rintro x w1 ⟨rfl, c4, rfl⟩
    rw [HA.out]
    go_wp2_with fail
    refine bodyPost_ret (v := .agg #[.int .i64 2, .bool (s != t), .slice none 0 0, .int .i64 0, .bool false]) (by cases s <;> cases t <;> simp [results, Tryd.results92, go_sem]) rfl ⟨_, rfl, ⟨_, rfl, nat_nil _⟩, ?_⟩
    exact (((((((Q.refl w).cells _ _).cells _ _).cells _ _).cells _ _).cells _ _).cells _ _).cells _ _
  · have HA : Hid _ := hA
    have HB : Hid _ := hB
    clear hA hB hz
    rw [if_pos rfl, if_pos rfl]
    go_enter Tryd.func92, Tryd.ntmps92
    go_wp2_with fail
    refine (zero_any _ (.fin s n e g) _ (((((Q.refl w).cells _ _).cells _ _).cells _ _) |>.num HX.out)).mono ?_
    rintro x w1 ⟨rfl, c1, rfl⟩
    rw [HA.out]
    go_wp2_with fail
    refine (zero_any _ (.fin t k f h) _ ((((((Q.refl w).cells _ _).cells _ _).cells _ _).cells _ _) |>.num HY.out)).mono ?_
    rintro x w1 ⟨rfl, c2, rfl⟩
    rw [HB.out]
    go_wp2_with fail
    refine bodyPost_ret (v := .agg #[.int .i64 0, .bool false, .slice none 0 0, .int .i64 0, .bool false]) (by simp [results, Tryd.results92, go_sem]) rfl ⟨_, rfl, ⟨_, _, _, rfl⟩, ?_⟩
    exact (((((Q.refl w).cells _ _).cells _ _).cells _ _).cells _ _).cells _ _
end Go.Proofs.YtjjjgdpgfndbdaaDoor
/- What the reference's Add, Scale and Half return of whatever samples: the exact number, rounded. -/
namespace Go.Proofs.YtjjjgdpgfndbdaaDoor
open Go.RowKit

/-- Numbers of middling size. -/
def mid : RNum → Prop
  | ⟨some (.inr (_, n, e, m))⟩ => blen n ≤ 1000 ∧ -1000 ≤ e ∧ e ≤ 1000 ∧ m = false
  | _ => True
theorem mid_small {x : RNum} (h : mid x) : small x := by
  cases x using RNum.rec3 with
  | fin s n e m => exact ⟨by have := h.1; omega, by have := h.2.1; omega, by have := h.2.2.1; omega⟩
  | nan => exact trivial
  | inf s => exact trivial
theorem numOf_cases (b : Nat) : numOf Ieee.single b = .nan ∨ (∃ s, numOf Ieee.single b = .inf s) ∨ ∃ s n e, numOf Ieee.single b = .fin s n e false ∧ n < 16777216 ∧ -149 ≤ e ∧ e ≤ 104 := by
  have hx : b / 8388608 % 256 < 256 := Nat.mod_lt _ (by decide)
  by_cases h1 : b / 8388608 % 256 = 255
  · by_cases h2 : b % 8388608 = 0
    · exact Or.inr (Or.inl ⟨_, numOf_inf h1 h2⟩)
    · exact Or.inl (numOf_nan h1 h2)
  · by_cases h3 : b / 8388608 % 256 = 0
    · exact Or.inr (Or.inr ⟨_, _, _, numOf_small h3, by omega, by omega, by omega⟩)
    · exact Or.inr (Or.inr ⟨_, _, _, numOf_norm h3 h1, by omega, by omega, by omega⟩)
theorem numOf_mid (b : Nat) : mid (numOf Ieee.single b) := by
  rcases numOf_cases b with h | ⟨s, h⟩ | ⟨s, n, e, h, hn, h0, h1⟩
  · rw [h]; exact trivial
  · rw [h]; exact trivial
  · rw [h]
    have : blen n ≤ 24 := blen_le hn
    exact ⟨by omega, by omega, by omega, rfl⟩
theorem blen_shifted {k : Nat} (n d : Nat) (h : blen n + d ≤ k) : blen (n * 2 ^ d) ≤ k := blen_le (shifted_lt n d h)
theorem plusFin_fits {s t : Bool} {x y : Nat} {b : Int} (hx : blen x ≤ 3000) (hy : blen y ≤ 3000) (b0 : -1000 ≤ b) (b1 : b ≤ 1000) : fits (plusFin s t x y b) := by
  have gx := blen_lt x
  have gy := blen_lt y
  obtain ⟨j, hj⟩ : ∃ j, j = 3000 := ⟨_, rfl⟩
  have px : 2 ^ blen x ≤ 2 ^ j := Nat.pow_le_pow_right (by decide) (by omega)
  have py : 2 ^ blen y ≤ 2 ^ j := Nat.pow_le_pow_right (by decide) (by omega)
  have key : ∀ z, z ≤ x + y → blen z ≤ 6000 := fun z hz => by
    have : z < 2 ^ (j + 1) := by rw [Nat.pow_succ]; omega
    have := blen_le this
    omega
  unfold plusFin
  split
  · exact ⟨key _ (by omega), by omega, by omega, fun h => by cases h⟩
  · split
    · exact ⟨key _ (by omega), by omega, by omega, fun h => by cases h⟩
    · split
      · exact ⟨key _ (by omega), by omega, by omega, fun h => by cases h⟩
      · exact ⟨key _ (by omega), by omega, by omega, fun h => by cases h⟩
theorem plusR_fits {x y : RNum} (hx : mid x) (hy : mid y) : fits (plusR x y) := by
  cases x using RNum.rec3 with
  | nan => exact trivial
  | inf s =>
    cases y using RNum.rec3 with
    | nan => exact trivial
    | inf t => show fits (if s = t then .inf s else .nan); split <;> exact trivial
    | fin t k f g => exact trivial
  | fin s n e m =>
    cases y using RNum.rec3 with
    | nan => exact trivial
    | inf t => exact trivial
    | fin t k f g =>
      obtain ⟨n1, e0, e1, _⟩ := hx
      obtain ⟨k1, f0, f1, _⟩ := hy
      refine plusFin_fits ?_ ?_ (by omega) (by omega)
      · exact blen_shifted n _ (by omega)
      · exact blen_shifted k _ (by omega)

set_option maxHeartbeats 2000000 in
theorem radd_any (a b : Nat) (w : World) (ha : a < 4294967296) (hb : b < 4294967296) :
    Calls Tryd.prog 38 #[.int .u32 a, .int .u32 b] w fun e w' => e = .returned (.int .u32 (roundR (plusR (numOf Ieee.single a) (numOf Ieee.single b)) : Int)) ∧ Q w w' := by
  go_enter Tryd.func38, Tryd.ntmps38
  go_wp2_with fail
  refine (num_any a _ ha).mono ?_
  rintro e w1 ⟨v1, rfl, hv1, q1⟩
  go_wp2_with fail
  refine (num_any b _ hb).mono ?_
  rintro e w2 ⟨v2, rfl, hv2, q2⟩
  go_wp2_with fail
  refine (plusnum_any v1 v2 _ _ _ (q2.num hv1) hv2 (mid_small (numOf_mid a)) (mid_small (numOf_mid b))).mono ?_
  rintro e w3 ⟨v3, rfl, hv3, q3⟩
  go_wp2_with fail
  refine (rbits_any v3 _ _ hv3 (plusR_fits (numOf_mid a) (numOf_mid b))).mono ?_
  rintro e w4 ⟨rfl, q4⟩
  go_wp2_with fail
  go_ret
  exact ⟨rfl, ((q1.trans q2).trans q3).trans q4⟩

/-- Times 2^d. -/
def scaleR (d : Int) : RNum → RNum
  | ⟨some (.inr (s, n, e, m))⟩ => .fin s n (e + d) m
  | x => x
theorem scaleR_fits {x : RNum} {d : Int} (h : mid x) (d0 : -1000 ≤ d) (d1 : d ≤ 1000) : fits (scaleR d x) := by
  cases x using RNum.rec3 with
  | nan => exact trivial
  | inf s => exact trivial
  | fin s n e m =>
    obtain ⟨n1, e0, e1, hm⟩ := h
    exact ⟨by omega, by omega, by omega, fun g => by rw [hm] at g; cases g⟩

end Go.Proofs.YtjjjgdpgfndbdaaDoor
