/- What the reference's Add, Scale and Half return of whatever samples: the exact number, rounded. -/
import Derived.Test.YtnjagokojdpgpabDoorG28d12016
namespace Go.Proofs.YtnjagokojdpgpabDoor
open Go.RowKit

/-- Numbers of middling size. -/
def mid : RNum → Prop
  | ⟨some (.inr (_, n, e, m))⟩ => blen n ≤ 1000 ∧ -1000 ≤ e ∧ e ≤ 1000 ∧ m = false
  | _ => True
theorem mid_small {x : RNum} (h : mid x) : small x := by
  cases x using RNum.rec3 with
  | fin s n e m => exact ⟨by have := h.1; omega, by have := h.2.1; omega, by have := h.2.2.1; omega⟩
  | nan => exact trivial
  | inf s => exact trivial
theorem numOf_cases (b : Nat) : numOf Ieee.single b = .nan ∨ (∃ s, numOf Ieee.single b = .inf s) ∨ ∃ s n e, numOf Ieee.single b = .fin s n e false ∧ n < 16777216 ∧ -149 ≤ e ∧ e ≤ 104 := by
  have hx : b / 8388608 % 256 < 256 := Nat.mod_lt _ (by decide)
  by_cases h1 : b / 8388608 % 256 = 255
  · by_cases h2 : b % 8388608 = 0
    · exact Or.inr (Or.inl ⟨_, numOf_inf h1 h2⟩)
    · exact Or.inl (numOf_nan h1 h2)
  · by_cases h3 : b / 8388608 % 256 = 0
    · exact Or.inr (Or.inr ⟨_, _, _, numOf_small h3, by omega, by omega, by omega⟩)
    · exact Or.inr (Or.inr ⟨_, _, _, numOf_norm h3 h1, by omega, by omega, by omega⟩)
theorem numOf_mid (b : Nat) : mid (numOf Ieee.single b) := by
  rcases numOf_cases b with h | ⟨s, h⟩ | ⟨s, n, e, h, hn, h0, h1⟩
  · rw [h]; exact trivial
  · rw [h]; exact trivial
  · rw [h]
    have : blen n ≤ 24 := blen_le hn
    exact ⟨by omega, by omega, by omega, rfl⟩
theorem blen_shifted {k : Nat} (n d : Nat) (h : blen n + d ≤ k) : blen (n * 2 ^ d) ≤ k := blen_le (shifted_lt n d h)
theorem plusFin_fits {s t : Bool} {x y : Nat} {b : Int} (hx : blen x ≤ 3000) (hy : blen y ≤ 3000) (b0 : -1000 ≤ b) (b1 : b ≤ 1000) : fits (plusFin s t x y b) := by
  have gx := blen_lt x
  have gy := blen_lt y
  obtain ⟨j, hj⟩ : ∃ j, j = 3000 := ⟨_, rfl⟩
  have px : 2 ^ blen x ≤ 2 ^ j := Nat.pow_le_pow_right (by decide) (by omega)
  have py : 2 ^ blen y ≤ 2 ^ j := Nat.pow_le_pow_right (by decide) (by omega)
  have key : ∀ z, z ≤ x + y → blen z ≤ 6000 := fun z hz => by
    have : z < 2 ^ (j + 1) := by rw [Nat.pow_succ]; omega
    have := blen_le this
    omega
  unfold plusFin
  split
  · exact ⟨key _ (by omega), by omega, by omega, fun h => by cases h⟩
  · split
    · exact ⟨key _ (by omega), by omega, by omega, fun h => by cases h⟩
    · split
      · exact ⟨key _ (by omega), by omega, by omega, fun h => by cases h⟩
      · exact ⟨key _ (by omega), by omega, by omega, fun h => by cases h⟩
theorem plusR_fits {x y : RNum} (hx : mid x) (hy : mid y) : fits (plusR x y) := by
  cases x using RNum.rec3 with
  | nan => exact trivial
  | inf s =>
    cases y using RNum.rec3 with
    | nan => exact trivial
    | inf t => show fits (if s = t then .inf s else .nan); split <;> exact trivial
    | fin t k f g => exact trivial
  | fin s n e m =>
    cases y using RNum.rec3 with
    | nan => exact trivial
    | inf t => exact trivial
    | fin t k f g =>
      obtain ⟨n1, e0, e1, _⟩ := hx
      obtain ⟨k1, f0, f1, _⟩ := hy
      refine plusFin_fits ?_ ?_ (by omega) (by omega)
      · exact blen_shifted n _ (by omega)
      · exact blen_shifted k _ (by omega)

/-- Times 2^d. -/
def scaleR (d : Int) : RNum → RNum
  | ⟨some (.inr (s, n, e, m))⟩ => .fin s n (e + d) m
  | x => x
theorem scaleR_fits {x : RNum} {d : Int} (h : mid x) (d0 : -1000 ≤ d) (d1 : d ≤ 1000) : fits (scaleR d x) := by
  cases x using RNum.rec3 with
  | nan => exact trivial
  | inf s => exact trivial
  | fin s n e m =>
    obtain ⟨n1, e0, e1, hm⟩ := h
    exact ⟨by omega, by omega, by omega, fun g => by rw [hm] at g; cases g⟩

set_option maxHeartbeats 2000000 in
theorem rscale_any (a : Nat) (n : Int) (w : World) (ha : a < 4294967296) :
    Calls Tryd.prog 33 #[.int .u32 a, .int .i64 n] w fun e w' => e = .returned (.int .u32 (roundR (scaleR (min (max n (-1000)) 1000) (numOf Ieee.single a)) : Int)) ∧ Q w w' := by
  obtain ⟨d, hd⟩ : ∃ d, d = min (max n (-1000)) 1000 := ⟨_, rfl⟩
  rw [← hd]
  have d0 : -1000 ≤ d := by omega
  have d1 : d ≤ 1000 := by omega
  have hcase : (n < -1000 ∧ Hid (d = -1000)) ∨ (¬ n < -1000 ∧ 1000 < n ∧ Hid (d = 1000)) ∨ (¬ n < -1000 ∧ ¬ 1000 < n ∧ Hid (d = n)) := by
    by_cases h1 : n < -1000
    · exact Or.inl ⟨h1, by show d = _; omega⟩
    · by_cases h2 : 1000 < n
      · exact Or.inr (Or.inl ⟨h1, h2, by show d = _; omega⟩)
      · exact Or.inr (Or.inr ⟨h1, h2, by show d = _; omega⟩)
  have HC : Hid _ := hcase
  clear hd hcase
  rcases numOf_cases a with hn | ⟨s, hn⟩ | ⟨s, k, e, hn, hk, e0, e1⟩
  all_goals
    have HN : Hid _ := hn
    clear hn
    go_enter Tryd.func33, Tryd.ntmps33
    go_wp2_with fail
    refine (num_any a _ ha).mono ?_
    rintro x w1 ⟨v1, rfl, hv1, q1⟩
    rw [HN.out] at hv1
  · obtain ⟨b, ee, m, rfl⟩ := hv1
    rcases HC.out with ⟨h1, h2⟩ | ⟨h1, h2, h3⟩ | ⟨h1, h2, h3⟩
    all_goals
      go_wp2_with fail
      refine (rbits_any _ .nan _ ⟨_, _, _, rfl⟩ trivial).mono ?_
      rintro x w2 ⟨rfl, q2⟩
      go_wp2_with fail
      go_ret
      exact ⟨ret_int (by rw [HN.out]; rfl), (q1.cells _ _).trans q2⟩
  · obtain ⟨ee, m, rfl⟩ := hv1
    rcases HC.out with ⟨h1, h2⟩ | ⟨h1, h2, h3⟩ | ⟨h1, h2, h3⟩
    all_goals
      go_wp2_with fail
      refine (rbits_any _ (.inf s) _ ⟨_, _, rfl⟩ trivial).mono ?_
      rintro x w2 ⟨rfl, q2⟩
      go_wp2_with fail
      go_ret
      exact ⟨ret_int (by rw [HN.out]; rfl), (q1.cells _ _).trans q2⟩
  · obtain ⟨nv, rfl, p, bb, L, C, rfl, hI⟩ := hv1
    have hfit : fits (.fin s k (e + d) false) := ⟨by have := blen_le (n := k) (k := 24) hk; omega, by omega, by omega, fun h => by cases h⟩
    rcases HC.out with ⟨h1, h2⟩ | ⟨h1, h2, h3⟩ | ⟨h1, h2, h3⟩
    · go_wp2_with fail
      refine (rbits_any _ (.fin s k (e + d) false) _ ⟨.slice p L C, by rw [h2.out], (Q.refl w1).cells _ _ |>.nat ⟨p, bb, L, C, rfl, hI⟩⟩ hfit).mono ?_
      rintro x w2 ⟨rfl, q2⟩
      go_wp2_with fail
      go_ret
      exact ⟨ret_int (by rw [HN.out]; rfl), (q1.cells _ _).trans q2⟩
    · go_wp2_with fail
      refine (rbits_any _ (.fin s k (e + d) false) _ ⟨.slice p L C, by rw [h3.out], (Q.refl w1).cells _ _ |>.nat ⟨p, bb, L, C, rfl, hI⟩⟩ hfit).mono ?_
      rintro x w2 ⟨rfl, q2⟩
      go_wp2_with fail
      go_ret
      exact ⟨ret_int (by rw [HN.out]; rfl), (q1.cells _ _).trans q2⟩
    · have n0 : -1000 ≤ n := by omega
      have n1 : n ≤ 1000 := by omega
      go_wp2_with fail
      refine (rbits_any _ (.fin s k (e + d) false) _ ⟨.slice p L C, by rw [h3.out], (Q.refl w1).cells _ _ |>.nat ⟨p, bb, L, C, rfl, hI⟩⟩ hfit).mono ?_
      rintro x w2 ⟨rfl, q2⟩
      go_wp2_with fail
      go_ret
      exact ⟨ret_int (by rw [HN.out]; rfl), (q1.cells _ _).trans q2⟩

end Go.Proofs.YtnjagokojdpgpabDoor
