/- What the reference's Zero and TimesNum return: the exact product. -/
import Derived.Test.YtgpkcclapkdndaaPlusN
namespace Go.Proofs.Ytgpkcclapkdndaa
open Go.RowKit

def zeroB : RNum → Bool
  | ⟨some (.inr (_, n, _, m))⟩ => decide (n = 0) && !m
  | _ => false
set_option maxHeartbeats 1000000 in
theorem zero_any (v : Value) (x : RNum) (w : World) (hx : NumAt w v x) :
    Calls Try.prog 50 #[v] w fun e w' => e = .returned (.bool (zeroB x)) ∧ ∃ c, w' = w.alloc (.cells c 46) := by
  cases x using RNum.rec3 with
  | nan =>
    obtain ⟨b, e, m, rfl⟩ := hx
    go_enter Try.func50, Try.ntmps50
    go_wp2
    go_ret
    exact ⟨rfl, _, rfl⟩
  | inf s =>
    obtain ⟨e, m, rfl⟩ := hx
    go_enter Try.func50, Try.ntmps50
    go_wp2
    go_ret
    exact ⟨rfl, _, rfl⟩
  | fin s n e m =>
    obtain ⟨nv, rfl, p, b, L, C, rfl, hn⟩ := hx
    have hz := hn.pos
    by_cases h : L = 0
    · subst h
      have h0 : n = 0 := hz.2 rfl
      cases m
      all_goals
        go_enter Try.func50, Try.ntmps50
        go_wp2
        go_ret
        exact ⟨ret_bool (by first | rfl | (rw [h0]; rfl)), _, rfl⟩
    · have hb : ((L : Int) == 0) = false := by simp; omega
      have h0 : n ≠ 0 := fun g => h (hz.1 g)
      have H0 : Hid _ := h0
      clear hz h0
      go_enter Try.func50, Try.ntmps50
      go_wp2
      go_ret
      exact ⟨ret_bool (by show false = (decide (n = 0) && !m); rw [decide_eq_false H0.out]; rfl), _, rfl⟩

/-- The cells that TimesNum reads and writes. -/
structure TBox (w wc : World) (va vb : Value) (e f : Int) : Prop where
  q : Q w wc
  a2 : wc.cell? ⟨w.heap.size, 2, none⟩ = some va
  a3 : wc.cell? ⟨w.heap.size, 3, none⟩ = some (.int .i64 e)
  b2 : wc.cell? ⟨w.heap.size + 1, 2, none⟩ = some vb
  b3 : wc.cell? ⟨w.heap.size + 1, 3, none⟩ = some (.int .i64 f)
  r : Res5 wc (w.heap.size + 1 + 1)
theorem TBox.next {w wc wd : World} {va vb : Value} {e f : Int} (h : TBox w wc va vb e f) (q : Q wc wd) : TBox w wd va vb e f :=
  ⟨h.q.trans q, q.cell h.a2, q.cell h.a3, q.cell h.b2, q.cell h.b3, h.r.next q⟩

/-- A product, digit by digit. -/
theorem prod_step (n k i : Nat) : n * (k % 4294967296 ^ (i + 1)) = n * (k % 4294967296 ^ i) + n * dig k i * 2 ^ (32 * i) := by
  unfold dig
  rw [Nat.pow_succ, Nat.mod_mul, Nat.mul_add, ← base_pow, Nat.mul_comm (4294967296 ^ i), ← Nat.mul_assoc]

set_option maxHeartbeats 8000000 in
set_option maxRecDepth 1000000 in
theorem times_fin (s t m m' : Bool) (va vb : Value) (n k : Nat) (e f : Int) (w : World) (hn : NatAt w va n) (hk : NatAt w vb k)
    (n1 : blen n ≤ 500) (e0 : -2000 ≤ e) (e1 : e ≤ 2000) (k1 : blen k ≤ 500) (f0 : -2000 ≤ f) (f1 : f ≤ 2000) :
    Calls Try.prog 44 #[.agg #[.int .i64 2, .bool s, va, .int .i64 e, .bool m], .agg #[.int .i64 2, .bool t, vb, .int .i64 f, .bool m']] w
      fun x w' => ∃ v, x = .returned v ∧ NumAt w' v (.fin (s != t) (n * k) (e + f) false) ∧ Q w w' := by
  obtain ⟨pa, ba, La, Ca, rfl, hnI⟩ := hn
  obtain ⟨pb, bb, Lb, Cb, rfl, hkI⟩ := hk
  have HNA : Hid (NatAt w (.slice pa La Ca) n) := ⟨pa, ba, La, Ca, rfl, hnI⟩
  have hlb := hkI.len
  have HCN : Hid (n < cap) := lt_cap (blen_lt n) (by omega)
  have hlb16 : Lb ≤ 16 := by
    obtain ⟨j, hj⟩ : ∃ j, j = 16 := ⟨_, rfl⟩
    have := hkI.len_le (k := j) (by rw [base_pow]; exact Nat.lt_of_lt_of_le (blen_lt k) (Nat.pow_le_pow_right (by decide) (by omega)))
    omega
  have HCB : Hid (∀ i x, i ≤ 16 → x < 4294967296 → n * x * 2 ^ (32 * i) < cap) := by
    intro i x hi hx
    have h1 : n * x < 2 ^ blen n * 2 ^ 32 := Nat.mul_lt_mul_of_lt_of_lt (blen_lt n) hx
    have h2 : n * x * 2 ^ (32 * i) < 2 ^ blen n * 2 ^ 32 * 2 ^ (32 * i) := Nat.mul_lt_mul_of_pos_right h1 (Nat.two_pow_pos _)
    rw [← Nat.pow_add, ← Nat.pow_add] at h2
    exact lt_cap h2 (by omega)
  have HCS : Hid (∀ i, n * (k % 4294967296 ^ i) < cap) := by
    intro i
    have h1 : n * (k % 4294967296 ^ i) ≤ n * k := Nat.mul_le_mul_left _ (Nat.mod_le _ _)
    have h2 : n * k < 2 ^ blen n * 2 ^ blen k := Nat.mul_lt_mul_of_lt_of_lt (blen_lt n) (blen_lt k)
    rw [← Nat.pow_add] at h2
    exact lt_cap (Nat.lt_of_le_of_lt h1 h2) (by omega)
  have HKE : Hid (k % 4294967296 ^ Lb = k) := Nat.mod_eq_of_lt hkI.hi
  clear n1 k1
  go_enter Try.func44, Try.ntmps44
  go_wp2_with fail
  go_loopg [6, 7] Lb (fun g s6 s7 wr => ∃ i : Nat, i ≤ Lb ∧ g = Lb - i ∧ s7 = .int .i64 i ∧ NatAt wr s6 (n * (k % 4294967296 ^ i)) ∧ TBox w wr (.slice pa La Ca) (.slice pb Lb Cb) e f)
  case atStart =>
    refine ⟨0, Nat.zero_le _, rfl, rfl, by rw [Nat.pow_zero, Nat.mod_one, Nat.mul_zero]; exact nat_nil _, (((Q.refl w).cells _ _).cells _ _).cells _ _, by simp [go_sem], by simp [go_sem], by simp [go_sem], by simp [go_sem], ⟨by simp [go_sem], by simp [go_sem], by simp [go_sem], by simp [go_sem], by simp [go_sem], fun i => by simp [go_sem]⟩⟩
  case round =>
    obtain ⟨i, hi, rfl, rfl, h6, hB⟩ := hrel
    have b2 := hB.b2
    by_cases hiL : i < Lb
    · have hiz : (i : Int) < (Lb : Int) := by omega
      obtain rfl := hkI.ptr (by omega)
      have a2 := hB.a2
      have cd := hB.q.cell (hkI.cell i hiL)
      have hd := dig_lt k i
      have H6 : Hid _ := h6
      obtain ⟨J, hJ⟩ : ∃ J, J = 32 * i := ⟨_, rfl⟩
      have hJz : 32 * (i : Int) = (J : Int) := by omega
      have wJ : IntKind.i64.wrap (J : Int) = (J : Int) := by rw [IntKind.wrap_i64]; omega
      have HJ : Hid _ := hJ
      clear h6 hJ
      go_wp2_with fail
      go_region_held3 (fun w' => w'.cell? ⟨w.heap.size, 2, none⟩ = some (.slice pa La Ca) ∧ w'.cell? ⟨w.heap.size + 1, 2, none⟩ = some (.slice (some ⟨bb, 0, none⟩) Lb Cb) ∧ w'.cell? ⟨bb, i, none⟩ = some (.int .u32 (dig k i))) (first | (refine ⟨?_, ?_, ?_⟩ <;> assumption) | (simp [a2, b2, cd]; done)) (first | (go_at_call 75; refine (times_any _ n (dig k i) _ (Q.nat hB.q.drew HNA.out) hd HCN.out).mono ?_; rintro x w1 ⟨v1, rfl, hv1, q1⟩; have g1 := q1.cell (p := ⟨w.heap.size, 2, none⟩) a2; have g2 := q1.cell (p := ⟨w.heap.size + 1, 2, none⟩) b2; have g3 := q1.cell (p := ⟨bb, i, none⟩) cd) | (go_at_call 51; refine (up_any _ (n * dig k i) J _ hv1 (by rw [HJ.out]; exact HCB.out i _ (by omega) hd)).mono ?_; rintro x w2 ⟨v2, rfl, hv2, q2⟩; have k1 := q2.cell g1; have k2 := q2.cell g2; have k3 := q2.cell g3) | (go_at_call 53; refine (plus_any _ _ (n * (k % 4294967296 ^ i)) (n * dig k i * 2 ^ J) _ (Q.nat (((Q.refl _).drew.trans q1).trans q2) H6.out) hv2 (by rw [HJ.out, ← prod_step]; exact HCS.out (i + 1))).mono ?_; rintro x w3 ⟨v3, rfl, hv3, q3⟩; have l1 := q3.cell k1; have l2 := q3.cell k2; have l3 := q3.cell k3))
      all_goals
        go_wp2_with fail
        go_roundg (Lb - (i + 1))
        case measure => go_light; omega
        case rel =>
          go_light
          refine ⟨i + 1, by omega, rfl, by simp, ?_, ((hB.next ((Q.refl _).drew.trans q1)).next q2).next q3⟩
          rw [prod_step, ← HJ.out]; exact hv3
    · obtain rfl : i = Lb := by omega
      have hiz : ¬ (i : Int) < (i : Int) := by omega
      have a3 := hB.a3
      have b3 := hB.b3
      have d0 := hB.r.c0
      have d1 := hB.r.c1
      have d2 := hB.r.c2
      have d3 := hB.r.c3
      have d4 := hB.r.c4
      have y0 := hB.r.z 0
      have y1 := hB.r.z 1
      have y2 := hB.r.z 2
      have y3 := hB.r.z 3
      have y4 := hB.r.z 4
      rw [HKE.out] at h6
      obtain ⟨p6, b6, L6, C6, rfl, hI6⟩ := h6
      go_wp2_with fail
      refine bodyPost_ret (v := .agg #[.int .i64 2, .bool (s != t), .slice p6 L6 C6, .int .i64 (e + f), .bool false]) (by cases s <;> cases t <;> simp [results, Try.results44, go_sem, d0, d1, d2, d3, d4]) rfl ⟨_, rfl, ?_, ?_⟩
      · exact ⟨_, rfl, natAt_but ⟨p6, b6, L6, C6, rfl, hI6⟩ d0 (fun a ha => by repeat rw [set_but _ ha])⟩
      · exact ((((hB.q.set (far2 w) _).set (far2 w) _).set (far2 w) _).set (far2 w) _).set (far2 w) _

/-- The exact product. -/
def timesR : RNum → RNum → RNum
  | ⟨none⟩, _ => .nan
  | ⟨some (.inl _)⟩, ⟨none⟩ => .nan
  | ⟨some (.inr _)⟩, ⟨none⟩ => .nan
  | ⟨some (.inl s)⟩, ⟨some (.inl t)⟩ => .inf (s != t)
  | ⟨some (.inl s)⟩, ⟨some (.inr (t, n, e, m))⟩ => if zeroB (.fin t n e m) = true then .nan else .inf (s != t)
  | ⟨some (.inr (s, n, e, m))⟩, ⟨some (.inl t)⟩ => if zeroB (.fin s n e m) = true then .nan else .inf (s != t)
  | ⟨some (.inr (s, n, e, _))⟩, ⟨some (.inr (t, k, f, _))⟩ => .fin (s != t) (n * k) (e + f) false

set_option maxHeartbeats 4000000 in
set_option maxRecDepth 1000000 in
theorem times_nan1 (va vb : Value) (y : RNum) (w : World) (hx : NumAt w va .nan) (hy : NumAt w vb y) :
    Calls Try.prog 44 #[va, vb] w fun e w' => ∃ v, e = .returned v ∧ NumAt w' v .nan ∧ Q w w' := by
  obtain ⟨b, e, m, rfl⟩ := hx
  obtain ⟨k, s, p, L, C, ee, mm, rfl⟩ := hy.made
  clear hy
  go_enter Try.func44, Try.ntmps44
  go_wp2_with fail
  refine bodyPost_ret (v := .agg #[.int .i64 0, .bool false, .slice none 0 0, .int .i64 0, .bool false]) (by simp [results, Try.results44, go_sem]) rfl ⟨_, rfl, ⟨_, _, _, rfl⟩, ?_⟩
  exact (((Q.refl w).cells _ _).cells _ _).cells _ _
set_option maxHeartbeats 4000000 in
set_option maxRecDepth 1000000 in
theorem times_nan2 (va vb : Value) (x : RNum) (w : World) (hx : NumAt w va x) (hy : NumAt w vb .nan) (hk : ∀ k s p L C e m, va = .agg #[.int .i64 k, .bool s, .slice p L C, .int .i64 e, .bool m] → k ≠ 0) :
    Calls Try.prog 44 #[va, vb] w fun e w' => ∃ v, e = .returned v ∧ NumAt w' v .nan ∧ Q w w' := by
  obtain ⟨b, e, m, rfl⟩ := hy
  obtain ⟨k, s, p, L, C, ee, mm, rfl⟩ := hx.made
  have hk0 : (k == 0) = false := by simpa using hk _ _ _ _ _ _ _ rfl
  clear hx hk
  go_enter Try.func44, Try.ntmps44
  go_wp2_with fail
  refine bodyPost_ret (v := .agg #[.int .i64 0, .bool false, .slice none 0 0, .int .i64 0, .bool false]) (by simp [results, Try.results44, go_sem]) rfl ⟨_, rfl, ⟨_, _, _, rfl⟩, ?_⟩
  exact (((Q.refl w).cells _ _).cells _ _).cells _ _
set_option maxHeartbeats 4000000 in
set_option maxRecDepth 1000000 in
theorem times_infinf (va vb : Value) (s t : Bool) (w : World) (hx : NumAt w va (.inf s)) (hy : NumAt w vb (.inf t)) :
    Calls Try.prog 44 #[va, vb] w fun e w' => ∃ v, e = .returned v ∧ NumAt w' v (.inf (s != t)) ∧ Q w w' := by
  obtain ⟨e, m, rfl⟩ := hx
  obtain ⟨e', m', rfl⟩ := hy
  go_enter Try.func44, Try.ntmps44
  go_wp2_with fail
  refine (zero_any _ (.inf t) _ ⟨_, _, rfl⟩).mono ?_
  rintro x w1 ⟨rfl, c, rfl⟩
  rw [show zeroB (.inf t) = false from rfl]
  go_wp2_with fail
  refine (zero_any _ (.inf s) _ ⟨_, _, rfl⟩).mono ?_
  rintro x w1 ⟨rfl, c', rfl⟩
  rw [show zeroB (.inf s) = false from rfl]
  go_wp2_with fail
  refine bodyPost_ret (v := .agg #[.int .i64 1, .bool (s != t), .slice none 0 0, .int .i64 0, .bool false]) (by cases s <;> cases t <;> simp [results, Try.results44, go_sem]) rfl ⟨_, rfl, ⟨_, _, rfl⟩, ?_⟩
  exact (((((Q.refl w).cells _ _).cells _ _).cells _ _).cells _ _).cells _ _
set_option maxHeartbeats 4000000 in
set_option maxRecDepth 1000000 in
theorem times_inffin (va vb : Value) (s t : Bool) (n : Nat) (f : Int) (g : Bool) (w : World) (hx : NumAt w va (.inf s)) (hy : NumAt w vb (.fin t n f g)) :
    Calls Try.prog 44 #[va, vb] w fun e w' => ∃ v, e = .returned v ∧ NumAt w' v (if zeroB (.fin t n f g) = true then .nan else .inf (s != t)) ∧ Q w w' := by
  obtain ⟨e, m, rfl⟩ := hx
  have HY : Hid _ := hy
  obtain ⟨nv, rfl, p, b, L, C, rfl, hn⟩ := hy
  obtain ⟨Z, hZ⟩ : ∃ Z, Z = zeroB (.fin t n f g) := ⟨_, rfl⟩
  rw [← hZ]
  have HZ : Hid _ := hZ
  clear hZ hn
  go_enter Try.func44, Try.ntmps44
  go_wp2_with fail
  refine (zero_any _ (.fin t n f g) _ ((((Q.refl w).cells _ _).cells _ _).cells _ _ |>.num HY.out)).mono ?_
  rintro x w1 ⟨rfl, c, rfl⟩
  rw [← HZ.out]
  clear HZ HY
  cases Z
  · go_wp2_with fail
    refine bodyPost_ret (v := .agg #[.int .i64 1, .bool (s != t), .slice none 0 0, .int .i64 0, .bool false]) (by cases s <;> cases t <;> simp [results, Try.results44, go_sem]) rfl ⟨_, rfl, ⟨_, _, rfl⟩, ?_⟩
    exact ((((Q.refl w).cells _ _).cells _ _).cells _ _).cells _ _
  · go_wp2_with fail
    refine bodyPost_ret (v := .agg #[.int .i64 0, .bool false, .slice none 0 0, .int .i64 0, .bool false]) (by simp [results, Try.results44, go_sem]) rfl ⟨_, rfl, ⟨_, _, _, rfl⟩, ?_⟩
    exact ((((Q.refl w).cells _ _).cells _ _).cells _ _).cells _ _
set_option maxHeartbeats 4000000 in
set_option maxRecDepth 1000000 in
theorem times_fininf (va vb : Value) (s t : Bool) (n : Nat) (f : Int) (g : Bool) (w : World) (hx : NumAt w va (.fin s n f g)) (hy : NumAt w vb (.inf t)) :
    Calls Try.prog 44 #[va, vb] w fun e w' => ∃ v, e = .returned v ∧ NumAt w' v (if zeroB (.fin s n f g) = true then .nan else .inf (s != t)) ∧ Q w w' := by
  obtain ⟨e, m, rfl⟩ := hy
  have HY : Hid _ := hx
  obtain ⟨nv, rfl, p, b, L, C, rfl, hn⟩ := hx
  obtain ⟨Z, hZ⟩ : ∃ Z, Z = zeroB (.fin s n f g) := ⟨_, rfl⟩
  rw [← hZ]
  have HZ : Hid _ := hZ
  clear hZ hn
  go_enter Try.func44, Try.ntmps44
  go_wp2_with fail
  refine (zero_any _ (.fin s n f g) _ ((((Q.refl w).cells _ _).cells _ _).cells _ _ |>.num HY.out)).mono ?_
  rintro x w1 ⟨rfl, c, rfl⟩
  rw [← HZ.out]
  clear HZ HY
  cases Z
  · go_wp2_with fail
    refine bodyPost_ret (v := .agg #[.int .i64 1, .bool (s != t), .slice none 0 0, .int .i64 0, .bool false]) (by cases s <;> cases t <;> simp [results, Try.results44, go_sem]) rfl ⟨_, rfl, ⟨_, _, rfl⟩, ?_⟩
    exact ((((Q.refl w).cells _ _).cells _ _).cells _ _).cells _ _
  · go_wp2_with fail
    refine bodyPost_ret (v := .agg #[.int .i64 0, .bool false, .slice none 0 0, .int .i64 0, .bool false]) (by simp [results, Try.results44, go_sem]) rfl ⟨_, rfl, ⟨_, _, _, rfl⟩, ?_⟩
    exact ((((Q.refl w).cells _ _).cells _ _).cells _ _).cells _ _
end Go.Proofs.Ytgpkcclapkdndaa
