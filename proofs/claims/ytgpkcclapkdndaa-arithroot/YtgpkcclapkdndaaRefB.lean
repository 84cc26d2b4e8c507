/- What the reference's Mul, Fma and Sub return of whatever samples: the exact number, rounded. -/
import Derived.Test.YtgpkcclapkdndaaTimesN
import Derived.Test.YtgpkcclapkdndaaRefA
import Derived.Test.YtgpkcclapkdndaaLinkA
namespace Go.Proofs.Ytgpkcclapkdndaa
open Go.RowKit

/-- Numbers of a few hundred digits at most. -/
def few : RNum → Prop
  | ⟨some (.inr (_, n, e, m))⟩ => blen n ≤ 500 ∧ -500 ≤ e ∧ e ≤ 500 ∧ m = false
  | _ => True
theorem few_mid {x : RNum} (h : few x) : mid x := by
  cases x using RNum.rec3 with
  | fin s n e m => exact ⟨by have := h.1; omega, by have := h.2.1; omega, by have := h.2.2.1; omega, h.2.2.2⟩
  | nan => exact trivial
  | inf s => exact trivial
theorem numOf_few (b : Nat) : few (numOf Ieee.single b) := by
  rcases numOf_cases b with h | ⟨s, h⟩ | ⟨s, n, e, h, hn, h0, h1⟩
  · rw [h]; exact trivial
  · rw [h]; exact trivial
  · rw [h]
    have : blen n ≤ 24 := blen_le hn
    exact ⟨by omega, by omega, by omega, rfl⟩

theorem timesnum_any (va vb : Value) (x y : RNum) (w : World) (hx : NumAt w va x) (hy : NumAt w vb y) (fx : few x) (fy : few y) :
    Calls Try.prog 44 #[va, vb] w fun e w' => ∃ v, e = .returned v ∧ NumAt w' v (timesR x y) ∧ Q w w' := by
  cases x using RNum.rec3 with
  | nan => exact times_nan1 va vb y w hx hy
  | inf s =>
    cases y using RNum.rec3 with
    | nan => exact times_nan2 va vb _ w hx hy (fun k s' p L C e m h => by
        obtain ⟨e', m', h'⟩ := hx
        rw [h'] at h
        intro hk
        rw [hk] at h
        simp at h)
    | inf t => exact times_infinf va vb s t w hx hy
    | fin t n f g => exact times_inffin va vb s t n f g w hx hy
  | fin s n e m =>
    cases y using RNum.rec3 with
    | nan => exact times_nan2 va vb _ w hx hy (fun k s' p L C e' m' h => by
        obtain ⟨nv, h', hn⟩ := hx
        rw [h'] at h
        intro hk
        rw [hk] at h
        simp at h)
    | inf t => exact times_fininf va vb s t n e m w hx hy
    | fin t k f g =>
      obtain ⟨nv, rfl, hn⟩ := hx
      obtain ⟨kv, rfl, hk⟩ := hy
      exact times_fin s t m g nv kv n k e f w hn hk fx.1 (by have := fx.2.1; omega) (by have := fx.2.2.1; omega) fy.1 (by have := fy.2.1; omega) (by have := fy.2.2.1; omega)
theorem timesR_mid {x y : RNum} (fx : few x) (fy : few y) : mid (timesR x y) := by
  cases x using RNum.rec3 with
  | nan => exact trivial
  | inf s =>
    cases y using RNum.rec3 with
    | nan => exact trivial
    | inf t => exact trivial
    | fin t n f g => show mid (if zeroB (.fin t n f g) = true then .nan else .inf (s != t)); split <;> exact trivial
  | fin s n e m =>
    cases y using RNum.rec3 with
    | nan => exact trivial
    | inf t => show mid (if zeroB (.fin s n e m) = true then .nan else .inf (s != t)); split <;> exact trivial
    | fin t k f g =>
      obtain ⟨a1, a2, a3, _⟩ := fx
      obtain ⟨b1, b2, b3, _⟩ := fy
      refine ⟨?_, by omega, by omega, rfl⟩
      have h2 : n * k < 2 ^ blen n * 2 ^ blen k := Nat.mul_lt_mul_of_lt_of_lt (blen_lt n) (blen_lt k)
      rw [← Nat.pow_add] at h2
      have := blen_le h2
      omega
theorem mid_fits {x : RNum} (h : mid x) : fits x := by
  cases x using RNum.rec3 with
  | nan => exact trivial
  | inf s => exact trivial
  | fin s n e m =>
    obtain ⟨a1, a2, a3, hm⟩ := h
    exact ⟨by omega, by omega, by omega, fun g => by rw [hm] at g; cases g⟩

set_option maxHeartbeats 2000000 in
theorem rmul_any (a b : Nat) (w : World) (ha : a < 4294967296) (hb : b < 4294967296) :
    Calls Try.prog 15 #[.int .u32 a, .int .u32 b] w fun e w' => e = .returned (.int .u32 (roundR (timesR (numOf Ieee.single a) (numOf Ieee.single b)) : Int)) ∧ Q w w' := by
  go_enter Try.func15, Try.ntmps15
  go_wp2_with fail
  refine (num_any a _ ha).mono ?_
  rintro e w1 ⟨v1, rfl, hv1, q1⟩
  go_wp2_with fail
  refine (num_any b _ hb).mono ?_
  rintro e w2 ⟨v2, rfl, hv2, q2⟩
  go_wp2_with fail
  refine (timesnum_any v1 v2 _ _ _ (q2.num hv1) hv2 (numOf_few a) (numOf_few b)).mono ?_
  rintro e w3 ⟨v3, rfl, hv3, q3⟩
  go_wp2_with fail
  refine (rbits_any v3 _ _ hv3 (mid_fits (timesR_mid (numOf_few a) (numOf_few b)))).mono ?_
  rintro e w4 ⟨rfl, q4⟩
  go_wp2_with fail
  go_ret
  exact ⟨rfl, ((q1.trans q2).trans q3).trans q4⟩

set_option maxHeartbeats 2000000 in
theorem rfma_any (a b c : Nat) (w : World) (ha : a < 4294967296) (hb : b < 4294967296) (hc : c < 4294967296) :
    Calls Try.prog 19 #[.int .u32 a, .int .u32 b, .int .u32 c] w fun e w' => e = .returned (.int .u32 (roundR (plusR (timesR (numOf Ieee.single a) (numOf Ieee.single b)) (numOf Ieee.single c)) : Int)) ∧ Q w w' := by
  go_enter Try.func19, Try.ntmps19
  go_wp2_with fail
  refine (num_any a _ ha).mono ?_
  rintro e w1 ⟨v1, rfl, hv1, q1⟩
  go_wp2_with fail
  refine (num_any b _ hb).mono ?_
  rintro e w2 ⟨v2, rfl, hv2, q2⟩
  go_wp2_with fail
  refine (timesnum_any v1 v2 _ _ _ (q2.num hv1) hv2 (numOf_few a) (numOf_few b)).mono ?_
  rintro e w3 ⟨v3, rfl, hv3, q3⟩
  go_wp2_with fail
  refine (num_any c _ hc).mono ?_
  rintro e w4 ⟨v4, rfl, hv4, q4⟩
  go_wp2_with fail
  refine (plusnum_any v3 v4 _ _ _ (q4.num hv3) hv4 (mid_small (timesR_mid (numOf_few a) (numOf_few b))) (mid_small (numOf_mid c))).mono ?_
  rintro e w5 ⟨v5, rfl, hv5, q5⟩
  go_wp2_with fail
  refine (rbits_any v5 _ _ hv5 (plusR_fits (timesR_mid (numOf_few a) (numOf_few b)) (numOf_mid c))).mono ?_
  rintro e w6 ⟨rfl, q6⟩
  go_wp2_with fail
  go_ret
  exact ⟨rfl, ((((q1.trans q2).trans q3).trans q4).trans q5).trans q6⟩

/-- The other sign. -/
def oppR : RNum → RNum
  | ⟨none⟩ => .nan
  | ⟨some (.inl s)⟩ => .inf !s
  | ⟨some (.inr (s, n, e, m))⟩ => .fin (!s) n e m
theorem opp_mid {x : RNum} (h : mid x) : mid (oppR x) := by cases x using RNum.rec3 <;> exact h

theorem opp_num {w : World} {x : RNum} {k : Int} {s : Bool} {nv : Value} {e : Int} {m : Bool} (h : NumAt w (.agg #[.int .i64 k, .bool s, nv, .int .i64 e, .bool m]) x) : NumAt w (.agg #[.int .i64 k, .bool !s, nv, .int .i64 e, .bool m]) (oppR x) := by
  cases x using RNum.rec3 with
  | nan =>
    obtain ⟨b, e', m', h⟩ := h
    simp at h
    obtain ⟨rfl, rfl, rfl, rfl, rfl⟩ := h
    exact ⟨_, _, _, rfl⟩
  | inf t =>
    obtain ⟨e', m', h⟩ := h
    simp at h
    obtain ⟨rfl, rfl, rfl, rfl, rfl⟩ := h
    exact ⟨_, _, rfl⟩
  | fin t n f g =>
    obtain ⟨nv', h, hn⟩ := h
    simp at h
    obtain ⟨rfl, rfl, rfl, rfl, rfl⟩ := h
    exact ⟨_, rfl, hn⟩

set_option maxHeartbeats 4000000 in
theorem rsub_any (a b : Nat) (w : World) (ha : a < 4294967296) (hb : b < 4294967296) :
    Calls Try.prog 13 #[.int .u32 a, .int .u32 b] w fun e w' => e = .returned (.int .u32 (roundR (plusR (numOf Ieee.single a) (oppR (numOf Ieee.single b))) : Int)) ∧ Q w w' := by
  obtain ⟨R, hR⟩ : ∃ R, R = roundR (plusR (numOf Ieee.single a) (oppR (numOf Ieee.single b))) := ⟨_, rfl⟩
  have HR : Hid _ := hR
  rw [← hR]
  clear hR
  go_enter Try.func13, Try.ntmps13
  go_wp2_with fail
  refine (num_any b _ hb).mono ?_
  rintro x w1 ⟨v1, rfl, hv1, q1⟩
  obtain ⟨k, s, p, L, C, ee, m, rfl⟩ := hv1.made
  have HV : Hid _ := opp_num hv1
  clear hv1
  go_wp2_with fail
  go_region_held3 (fun w' => w'.cell? ⟨w1.heap.size, 0, none⟩ = some (.int .i64 k) ∧ w'.cell? ⟨w1.heap.size, 1, none⟩ = some (.bool !s) ∧ w'.cell? ⟨w1.heap.size, 2, none⟩ = some (.slice p L C) ∧ w'.cell? ⟨w1.heap.size, 3, none⟩ = some (.int .i64 ee) ∧ w'.cell? ⟨w1.heap.size, 4, none⟩ = some (.bool m)) (first | (refine ⟨?_, ?_, ?_, ?_, ?_⟩ <;> assumption) | (simp [go_sem]; done)) (first | (go_at_call 43; refine (num_any a _ ha).mono ?_; rintro x w2 ⟨v2, rfl, hv2, q2⟩; have d0 : w2.cell? ⟨w1.heap.size, 0, none⟩ = some (.int .i64 k) := q2.cell (by simp [go_sem]); have d1 : w2.cell? ⟨w1.heap.size, 1, none⟩ = some (.bool !s) := q2.cell (by simp [go_sem]); have d2 : w2.cell? ⟨w1.heap.size, 2, none⟩ = some (.slice p L C) := q2.cell (by simp [go_sem]); have d3 : w2.cell? ⟨w1.heap.size, 3, none⟩ = some (.int .i64 ee) := q2.cell (by simp [go_sem]); have d4 : w2.cell? ⟨w1.heap.size, 4, none⟩ = some (.bool m) := q2.cell (by simp [go_sem])) | (go_at_call 42; refine (plusnum_any _ _ _ _ _ hv2 (Q.num (((Q.refl w1).cells _ _).drew.trans q2) HV.out) (mid_small (numOf_mid a)) (mid_small (opp_mid (numOf_mid b)))).mono ?_; rintro x w3 ⟨v3, rfl, hv3, q3⟩; have f0 := q3.cell d0; have f1 := q3.cell d1; have f2 := q3.cell d2; have f3 := q3.cell d3; have f4 := q3.cell d4) | (go_at_call 41; refine (rbits_any _ _ _ hv3 (plusR_fits (numOf_mid a) (opp_mid (numOf_mid b)))).mono ?_; rintro x w4 ⟨rfl, q4⟩; have l0 := q4.cell f0; have l1 := q4.cell f1; have l2 := q4.cell f2; have l3 := q4.cell f3; have l4 := q4.cell f4; rw [← HR.out]))
  all_goals
    go_wp2_with fail
    go_ret
    exact ⟨rfl, ((((q1.cells _ _).drew).trans q2).trans q3).trans q4⟩

/-- Products. -/
theorem times_link (d d' : Ieee.Datum) : roundR (timesR (datumR d) (datumR d')) = toldD (d.product d') := by
  cases d with
  | nan s t => cases d' <;> rfl
  | infinity s =>
    cases d' with
    | nan t f => rfl
    | infinity t =>
      show Ieee.single.word (s != t) 2139095040 = Ieee.single.word (s ^^ t) Ieee.single.infRung
      cases s <;> cases t <;> rw [single_inf] <;> rfl
    | number t n j =>
      show roundR (if (decide (n = 0) && !false) = true then .nan else .inf (s != t)) = toldD (if n = 0 then none else some (.infinity (s ^^ t)))
      by_cases h : n = 0
      · rw [if_pos h, if_pos (by simp [h])]; rfl
      · rw [if_neg h, if_neg (by simp [h])]
        show Ieee.single.word (s != t) 2139095040 = Ieee.single.word (s ^^ t) Ieee.single.infRung
        cases s <;> cases t <;> rw [single_inf] <;> rfl
  | number s m i =>
    cases d' with
    | nan t f => rfl
    | infinity t =>
      show roundR (if (decide (m = 0) && !false) = true then .nan else .inf (s != t)) = toldD (if m = 0 then none else some (.infinity (t ^^ s)))
      by_cases h : m = 0
      · rw [if_pos h, if_pos (by simp [h])]; rfl
      · rw [if_neg h, if_neg (by simp [h])]
        show Ieee.single.word (s != t) 2139095040 = Ieee.single.word (t ^^ s) Ieee.single.infRung
        cases s <;> cases t <;> rw [single_inf] <;> rfl
    | number t n j =>
      show roundR (.fin (s != t) (m * n) (i + j) false) = Ieee.single.nearest (s ^^ t) (m * n) (i + j)
      cases s <;> cases t <;> rw [roundR_fin] <;> rfl
theorem opp_link (d : Ieee.Datum) : oppR (datumR d) = datumR d.opposite := by cases d <;> rfl
end Go.Proofs.Ytgpkcclapkdndaa
