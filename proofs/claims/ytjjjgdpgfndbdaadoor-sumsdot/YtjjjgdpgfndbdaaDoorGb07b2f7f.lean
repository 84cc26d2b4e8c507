/- What the reference's Zero and TimesNum return: the exact product. -/
import Derived.Test.YtjjjgdpgfndbdaaDoorGaca99f9f
namespace Go.Proofs.YtjjjgdpgfndbdaaDoor
open Go.RowKit

def zeroB : RNum → Bool
  | ⟨some (.inr (_, n, _, m))⟩ => decide (n = 0) && !m
  | _ => false
set_option maxHeartbeats 1000000 in
theorem zero_any (v : Value) (x : RNum) (w : World) (hx : NumAt w v x) :
    Calls Tryd.prog 75 #[v] w fun e w' => e = .returned (.bool (zeroB x)) ∧ ∃ c, w' = w.alloc (.cells c 80) := by
  cases x using RNum.rec3 with
  | nan =>
    obtain ⟨b, e, m, rfl⟩ := hx
    go_enter Tryd.func75, Tryd.ntmps75
    go_wp2
    go_ret
    exact ⟨rfl, _, rfl⟩
  | inf s =>
    obtain ⟨e, m, rfl⟩ := hx
    go_enter Tryd.func75, Tryd.ntmps75
    go_wp2
    go_ret
    exact ⟨rfl, _, rfl⟩
  | fin s n e m =>
    obtain ⟨nv, rfl, p, b, L, C, rfl, hn⟩ := hx
    have hz := hn.pos
    by_cases h : L = 0
    · subst h
      have h0 : n = 0 := hz.2 rfl
      cases m
      all_goals
        go_enter Tryd.func75, Tryd.ntmps75
        go_wp2
        go_ret
        exact ⟨ret_bool (by first | rfl | (rw [h0]; rfl)), _, rfl⟩
    · have hb : ((L : Int) == 0) = false := by simp; omega
      have h0 : n ≠ 0 := fun g => h (hz.1 g)
      have H0 : Hid _ := h0
      clear hz h0
      go_enter Tryd.func75, Tryd.ntmps75
      go_wp2
      go_ret
      exact ⟨ret_bool (by show false = (decide (n = 0) && !m); rw [decide_eq_false H0.out]; rfl), _, rfl⟩

/-- The cells that TimesNum reads and writes. -/
structure TBox (w wc : World) (va vb : Value) (e f : Int) : Prop where
  q : Q w wc
  a2 : wc.cell? ⟨w.heap.size, 2, none⟩ = some va
  a3 : wc.cell? ⟨w.heap.size, 3, none⟩ = some (.int .i64 e)
  b2 : wc.cell? ⟨w.heap.size + 1, 2, none⟩ = some vb
  b3 : wc.cell? ⟨w.heap.size + 1, 3, none⟩ = some (.int .i64 f)
  r : Res5 wc (w.heap.size + 1 + 1)
theorem TBox.next {w wc wd : World} {va vb : Value} {e f : Int} (h : TBox w wc va vb e f) (q : Q wc wd) : TBox w wd va vb e f :=
  ⟨h.q.trans q, q.cell h.a2, q.cell h.a3, q.cell h.b2, q.cell h.b3, h.r.next q⟩

/-- A product, digit by digit. -/
theorem prod_step (n k i : Nat) : n * (k % 4294967296 ^ (i + 1)) = n * (k % 4294967296 ^ i) + n * dig k i * 2 ^ (32 * i) := by
  unfold dig
  rw [Nat.pow_succ, Nat.mod_mul, Nat.mul_add, ← base_pow, Nat.mul_comm (4294967296 ^ i), ← Nat.mul_assoc]

set_option maxHeartbeats 8000000 in
set_option maxRecDepth 1000000 in
theorem times_fin (s t m m' : Bool) (va vb : Value) (n k : Nat) (e f : Int) (w : World) (hn : NatAt w va n) (hk : NatAt w vb k)
    (n1 : blen n ≤ 500) (e0 : -2000 ≤ e) (e1 : e ≤ 2000) (k1 : blen k ≤ 500) (f0 : -2000 ≤ f) (f1 : f ≤ 2000) :
    Calls Tryd.prog 51 #[.agg #[.int .i64 2, .bool s, va, .int .i64 e, .bool m], .agg #[.int .i64 2, .bool t, vb, .int .i64 f, .bool m']] w
      fun x w' => ∃ v, x = .returned v ∧ NumAt w' v (.fin (s != t) (n * k) (e + f) false) ∧ Q w w' := by
  obtain ⟨pa, ba, La, Ca, rfl, hnI⟩ := hn
  obtain ⟨pb, bb, Lb, Cb, rfl, hkI⟩ := hk
  have HNA : Hid (NatAt w (.slice pa La Ca) n) := ⟨pa, ba, La, Ca, rfl, hnI⟩
  have hlb := hkI.len
  have HCN : Hid (n < cap) := lt_cap (blen_lt n) (by omega)
  have hlb16 : Lb ≤ 16 := by
    obtain ⟨j, hj⟩ : ∃ j, j = 16 := ⟨_, rfl⟩
    have := hkI.len_le (k := j) (by rw [base_pow]; exact Nat.lt_of_lt_of_le (blen_lt k) (Nat.pow_le_pow_right (by decide) (by omega)))
    omega
  have HCB : Hid (∀ i x, i ≤ 16 → x < 4294967296 → n * x * 2 ^ (32 * i) < cap) := by
    intro i x hi hx
    have h1 : n * x < 2 ^ blen n * 2 ^ 32 := Nat.mul_lt_mul_of_lt_of_lt (blen_lt n) hx
    have h2 : n * x * 2 ^ (32 * i) < 2 ^ blen n * 2 ^ 32 * 2 ^ (32 * i) := Nat.mul_lt_mul_of_pos_right h1 (Nat.two_pow_pos _)
    rw [← Nat.pow_add, ← Nat.pow_add] at h2
    exact lt_cap h2 (by omega)
  have HCS : Hid (∀ i, n * (k % 4294967296 ^ i) < cap) := by
    intro i
    have h1 : n * (k % 4294967296 ^ i) ≤ n * k := Nat.mul_le_mul_left _ (Nat.mod_le _ _)
    have h2 : n * k < 2 ^ blen n * 2 ^ blen k := Nat.mul_lt_mul_of_lt_of_lt (blen_lt n) (blen_lt k)
    rw [← Nat.pow_add] at h2
    exact lt_cap (Nat.lt_of_le_of_lt h1 h2) (by omega)
  have HKE : Hid (k % 4294967296 ^ Lb = k) := Nat.mod_eq_of_lt hkI.hi
  clear n1 k1
  go_enter Tryd.func51, Tryd.ntmps51
  go_wp2_with fail
  go_loopg [6, 7] Lb (fun g s6 s7 wr => ∃ i : Nat, i ≤ Lb ∧ g = Lb - i ∧ s7 = .int .i64 i ∧ NatAt wr s6 (n * (k % 4294967296 ^ i)) ∧ TBox w wr (.slice pa La Ca) (.slice pb Lb Cb) e f)
  case atStart =>
    refine ⟨0, Nat.zero_le _, rfl, rfl, by rw [Nat.pow_zero, Nat.mod_one, Nat.mul_zero]; exact nat_nil _, (((Q.refl w).cells _ _).cells _ _).cells _ _, by simp [go_sem], by simp [go_sem], by simp [go_sem], by simp [go_sem], ⟨by simp [go_sem], by simp [go_sem], by simp [go_sem], by simp [go_sem], by simp [go_sem], fun i => by simp [go_sem]⟩⟩
  case round =>
    obtain ⟨i, hi, rfl, rfl, h6, hB⟩ := hrel
    have b2 := hB.b2
    by_cases hiL : i < Lb
    · have hiz : (i : Int) < (Lb : Int) := by omega
      obtain rfl := hkI.ptr (by omega)
      have a2 := hB.a2
      have cd := hB.q.cell (hkI.cell i hiL)
      have hd := dig_lt k i
      have H6 : Hid _ := h6
      obtain ⟨J, hJ⟩ : ∃ J, J = 32 * i := ⟨_, rfl⟩
      have hJz : 32 * (i : Int) = (J : Int) := by omega
      have wJ : IntKind.i64.wrap (J : Int) = (J : Int) := by rw [IntKind.wrap_i64]; omega
      have HJ : Hid _ := hJ
      clear h6 hJ
      go_wp2_with fail
      go_region_held3 (fun w' => w'.cell? ⟨w.heap.size, 2, none⟩ = some (.slice pa La Ca) ∧ w'.cell? ⟨w.heap.size + 1, 2, none⟩ = some (.slice (some ⟨bb, 0, none⟩) Lb Cb) ∧ w'.cell? ⟨bb, i, none⟩ = some (.int .u32 (dig k i))) (first | (refine ⟨?_, ?_, ?_⟩ <;> assumption) | (simp [a2, b2, cd]; done)) (first | (go_at_call 88; refine (times_any _ n (dig k i) _ (Q.nat hB.q.drew HNA.out) hd HCN.out).mono ?_; rintro x w1 ⟨v1, rfl, hv1, q1⟩; have g1 := q1.cell (p := ⟨w.heap.size, 2, none⟩) a2; have g2 := q1.cell (p := ⟨w.heap.size + 1, 2, none⟩) b2; have g3 := q1.cell (p := ⟨bb, i, none⟩) cd) | (go_at_call 84; refine (up_any _ (n * dig k i) J _ hv1 (by rw [HJ.out]; exact HCB.out i _ (by omega) hd)).mono ?_; rintro x w2 ⟨v2, rfl, hv2, q2⟩; have k1 := q2.cell g1; have k2 := q2.cell g2; have k3 := q2.cell g3) | (go_at_call 85; refine (plus_any _ _ (n * (k % 4294967296 ^ i)) (n * dig k i * 2 ^ J) _ (Q.nat (((Q.refl _).drew.trans q1).trans q2) H6.out) hv2 (by rw [HJ.out, ← prod_step]; exact HCS.out (i + 1))).mono ?_; rintro x w3 ⟨v3, rfl, hv3, q3⟩; have l1 := q3.cell k1; have l2 := q3.cell k2; have l3 := q3.cell k3))
      all_goals
        go_wp2_with fail
        go_roundg (Lb - (i + 1))
        case measure => go_light; omega
        case rel =>
          go_light
          refine ⟨i + 1, by omega, rfl, by simp, ?_, ((hB.next ((Q.refl _).drew.trans q1)).next q2).next q3⟩
          rw [prod_step, ← HJ.out]; exact hv3
    · obtain rfl : i = Lb := by omega
      have hiz : ¬ (i : Int) < (i : Int) := by omega
      have a3 := hB.a3
      have b3 := hB.b3
      have d0 := hB.r.c0
      have d1 := hB.r.c1
      have d2 := hB.r.c2
      have d3 := hB.r.c3
      have d4 := hB.r.c4
      have y0 := hB.r.z 0
      have y1 := hB.r.z 1
      have y2 := hB.r.z 2
      have y3 := hB.r.z 3
      have y4 := hB.r.z 4
      rw [HKE.out] at h6
      obtain ⟨p6, b6, L6, C6, rfl, hI6⟩ := h6
      go_wp2_with fail
      refine bodyPost_ret (v := .agg #[.int .i64 2, .bool (s != t), .slice p6 L6 C6, .int .i64 (e + f), .bool false]) (by cases s <;> cases t <;> simp [results, Tryd.results51, go_sem, d0, d1, d2, d3, d4]) rfl ⟨_, rfl, ?_, ?_⟩
      · exact ⟨_, rfl, natAt_but ⟨p6, b6, L6, C6, rfl, hI6⟩ d0 (fun a ha => by repeat rw [set_but _ ha])⟩
      · exact ((((hB.q.set (far2 w) _).set (far2 w) _).set (far2 w) _).set (far2 w) _).set (far2 w) _

/-- The exact product. -/
def timesR : RNum → RNum → RNum
  | ⟨none⟩, _ => .nan
  | ⟨some (.inl _)⟩, ⟨none⟩ => .nan
  | ⟨some (.inr _)⟩, ⟨none⟩ => .nan
  | ⟨some (.inl s)⟩, ⟨some (.inl t)⟩ => .inf (s != t)
  | ⟨some (.inl s)⟩, ⟨some (.inr (t, n, e, m))⟩ => if zeroB (.fin t n e m) = true then .nan else .inf (s != t)
  | ⟨some (.inr (s, n, e, m))⟩, ⟨some (.inl t)⟩ => if zeroB (.fin s n e m) = true then .nan else .inf (s != t)
  | ⟨some (.inr (s, n, e, _))⟩, ⟨some (.inr (t, k, f, _))⟩ => .fin (s != t) (n * k) (e + f) false

set_option maxHeartbeats 4000000 in
set_option maxRecDepth 1000000 in
theorem times_nan1 (va vb : Value) (y : RNum) (w : World) (hx : NumAt w va .nan) (hy : NumAt w vb y) :
    Calls Tryd.prog 51 #[va, vb] w fun e w' => ∃ v, e = .returned v ∧ NumAt w' v .nan ∧ Q w w' := by
  obtain ⟨b, e, m, rfl⟩ := hx
  obtain ⟨k, s, p, L, C, ee, mm, rfl⟩ := hy.made
  clear hy
  go_enter Tryd.func51, Tryd.ntmps51
  go_wp2_with fail
  refine bodyPost_ret (v := .agg #[.int .i64 0, .bool false, .slice none 0 0, .int .i64 0, .bool false]) (by simp [results, Tryd.results51, go_sem]) rfl ⟨_, rfl, ⟨_, _, _, rfl⟩, ?_⟩
  exact (((Q.refl w).cells _ _).cells _ _).cells _ _
set_option maxHeartbeats 4000000 in
set_option maxRecDepth 1000000 in
theorem times_nan2 (va vb : Value) (x : RNum) (w : World) (hx : NumAt w va x) (hy : NumAt w vb .nan) (hk : ∀ k s p L C e m, va = .agg #[.int .i64 k, .bool s, .slice p L C, .int .i64 e, .bool m] → k ≠ 0) :
    Calls Tryd.prog 51 #[va, vb] w fun e w' => ∃ v, e = .returned v ∧ NumAt w' v .nan ∧ Q w w' := by
  obtain ⟨b, e, m, rfl⟩ := hy
  obtain ⟨k, s, p, L, C, ee, mm, rfl⟩ := hx.made
  have hk0 : (k == 0) = false := by simpa using hk _ _ _ _ _ _ _ rfl
  clear hx hk
  go_enter Tryd.func51, Tryd.ntmps51
  go_wp2_with fail
  refine bodyPost_ret (v := .agg #[.int .i64 0, .bool false, .slice none 0 0, .int .i64 0, .bool false]) (by simp [results, Tryd.results51, go_sem]) rfl ⟨_, rfl, ⟨_, _, _, rfl⟩, ?_⟩
  exact (((Q.refl w).cells _ _).cells _ _).cells _ _
set_option maxHeartbeats 4000000 in
set_option maxRecDepth 1000000 in
theorem times_infinf (va vb : Value) (s t : Bool) (w : World) (hx : NumAt w va (.inf s)) (hy : NumAt w vb (.inf t)) :
    Calls Tryd.prog 51 #[va, vb] w fun e w' => ∃ v, e = .returned v ∧ NumAt w' v (.inf (s != t)) ∧ Q w w' := by
  obtain ⟨e, m, rfl⟩ := hx
  obtain ⟨e', m', rfl⟩ := hy
  go_enter Tryd.func51, Tryd.ntmps51
  go_wp2_with fail
  refine (zero_any _ (.inf t) _ ⟨_, _, rfl⟩).mono ?_
  rintro x w1 ⟨rfl, c, rfl⟩
  rw [show zeroB (.inf t) = false from rfl]
  go_wp2_with fail
  refine (zero_any _ (.inf s) _ ⟨_, _, rfl⟩).mono ?_
  rintro x w1 ⟨rfl, c', rfl⟩
  rw [show zeroB (.inf s) = false from rfl]
  go_wp2_with fail
  refine bodyPost_ret (v := .agg #[.int .i64 1, .bool (s != t), .slice none 0 0, .int .i64 0, .bool false]) (by cases s <;> cases t <;> simp [results, Tryd.results51, go_sem]) rfl ⟨_, rfl, ⟨_, _, rfl⟩, ?_⟩
  exact (((((Q.refl w).cells _ _).cells _ _).cells _ _).cells _ _).cells _ _
set_option maxHeartbeats 4000000 in
set_option maxRecDepth 1000000 in
theorem times_inffin (va vb : Value) (s t : Bool) (n : Nat) (f : Int) (g : Bool) (w : World) (hx : NumAt w va (.inf s)) (hy : NumAt w vb (.fin t n f g)) :
    Calls Tryd.prog 51 #[va, vb] w fun e w' => ∃ v, e = .returned v ∧ NumAt w' v (if zeroB (.fin t n f g) = true then .nan else .inf (s != t)) ∧ Q w w' := by
  obtain ⟨e, m, rfl⟩ := hx
  have HY : Hid _ := hy
  obtain ⟨nv, rfl, p, b, L, C, rfl, hn⟩ := hy
  obtain ⟨Z, hZ⟩ : ∃ Z, Z = zeroB (.fin t n f g) := ⟨_, rfl⟩
  rw [← hZ]
  have HZ : Hid _ := hZ
  clear hZ hn
  go_enter Tryd.func51, Tryd.ntmps51
  go_wp2_with fail
  refine (zero_any _ (.fin t n f g) _ ((((Q.refl w).cells _ _).cells _ _).cells _ _ |>.num HY.out)).mono ?_
  rintro x w1 ⟨rfl, c, rfl⟩
  rw [← HZ.out]
  clear HZ HY
  cases Z
  · go_wp2_with fail
    refine bodyPost_ret (v := .agg #[.int .i64 1, .bool (s != t), .slice none 0 0, .int .i64 0, .bool false]) (by cases s <;> cases t <;> simp [results, Tryd.results51, go_sem]) rfl ⟨_, rfl, ⟨_, _, rfl⟩, ?_⟩
    exact ((((Q.refl w).cells _ _).cells _ _).cells _ _).cells _ _
  · go_wp2_with fail
    refine bodyPost_ret (v := .agg #[.int .i64 0, .bool false, .slice none 0 0, .int .i64 0, .bool false]) (by simp [results, Tryd.results51, go_sem]) rfl ⟨_, rfl, ⟨_, _, _, rfl⟩, ?_⟩
    exact ((((Q.refl w).cells _ _).cells _ _).cells _ _).cells _ _
set_option maxHeartbeats 4000000 in
set_option maxRecDepth 1000000 in
theorem times_fininf (va vb : Value) (s t : Bool) (n : Nat) (f : Int) (g : Bool) (w : World) (hx : NumAt w va (.fin s n f g)) (hy : NumAt w vb (.inf t)) :
    Calls Tryd.prog 51 #[va, vb] w fun e w' => ∃ v, e = .returned v ∧ NumAt w' v (if zeroB (.fin s n f g) = true then .nan else .inf (s != t)) ∧ Q w w' := by
  obtain ⟨e, m, rfl⟩ := hy
  have HY : Hid _ := hx
  obtain ⟨nv, rfl, p, b, L, C, rfl, hn⟩ := hx
  obtain ⟨Z, hZ⟩ : ∃ Z, Z = zeroB (.fin s n f g) := ⟨_, rfl⟩
  rw [← hZ]
  have HZ : Hid _ := hZ
  clear hZ hn
  go_enter Tryd.func51, Tryd.ntmps51
  go_wp2_with fail
  refine (zero_any _ (.fin s n f g) _ ((((Q.refl w).cells _ _).cells _ _).cells _ _ |>.num HY.out)).mono ?_
  rintro x w1 ⟨rfl, c, rfl⟩
  rw [← HZ.out]
  clear HZ HY
  cases Z
  · go_wp2_with fail
    refine bodyPost_ret (v := .agg #[.int .i64 1, .bool (s != t), .slice none 0 0, .int .i64 0, .bool false]) (by cases s <;> cases t <;> simp [results, Tryd.results51, go_sem]) rfl ⟨_, rfl, ⟨_, _, rfl⟩, ?_⟩
    exact ((((Q.refl w).cells _ _).cells _ _).cells _ _).cells _ _
  · go_wp2_with fail
    refine bodyPost_ret (v := .agg #[.int .i64 0, .bool false, .slice none 0 0, .int .i64 0, .bool false]) (by simp [results, Tryd.results51, go_sem]) rfl ⟨_, rfl, ⟨_, _, _, rfl⟩, ?_⟩
    exact ((((Q.refl w).cells _ _).cells _ _).cells _ _).cells _ _
end Go.Proofs.YtjjjgdpgfndbdaaDoor
/- What the reference's DivNum returns of two numbers that are not 0: the quotient to 60 digits and more, and whether something is left. -/
namespace Go.Proofs.YtjjjgdpgfndbdaaDoor
open Go.RowKit

/-- By how much the dividend is shifted. -/
def shV (n k : Nat) : Nat := 60 + (blen k - blen n)
theorem div_start {A d : Nat} (hd : 0 < d) (h : blen d ≤ blen A) : A < d * 2 ^ (blen A - blen d + 1) := by
  have h1 := blen_lt A
  have h2 : 2 ^ (blen d - 1) ≤ d := by
    unfold blen
    rw [if_neg (by omega)]
    exact Nat.log2_self_le (by omega)
  have h3 : 0 < blen d := by unfold blen; rw [if_neg (by omega)]; omega
  have h4 : 2 ^ (blen d - 1) * 2 ^ (blen A - blen d + 1) ≤ d * 2 ^ (blen A - blen d + 1) := Nat.mul_le_mul_right _ h2
  rw [← Nat.pow_add, show blen d - 1 + (blen A - blen d + 1) = blen A by omega] at h4
  omega
theorem div_step {rest d g : Nat} (h : rest < d * 2 ^ (g + 1)) (hge : d * 2 ^ g ≤ rest) : rest - d * 2 ^ g < d * 2 ^ g := by
  rw [Nat.pow_succ, ← Nat.mul_assoc] at h
  omega
theorem div_end {A d q rest : Nat} (h : rest + d * q = A) (hr : rest < d * 2 ^ 0) : q = A / d ∧ rest = A % d := by
  rw [Nat.pow_zero, Nat.mul_one] at hr
  have hd : 0 < d := by omega
  constructor
  · rw [← h, Nat.add_mul_div_left _ _ hd, Nat.div_eq_of_lt hr, Nat.zero_add]
  · rw [← h, Nat.add_mul_mod_self_left, Nat.mod_eq_of_lt hr]
theorem blen_mul_pow {n : Nat} (h : n ≠ 0) (k : Nat) : blen (n * 2 ^ k) = blen n + k := by
  unfold blen
  rw [if_neg h, if_neg (Nat.mul_ne_zero h (by have := Nat.two_pow_pos k; omega)), log2_mul_pow h]
  omega

set_option maxHeartbeats 8000000 in
set_option maxRecDepth 1000000 in
theorem div_fin (s t : Bool) (va vb : Value) (n k : Nat) (e f : Int) (w : World) (hn : NatAt w va n) (hk : NatAt w vb k) (n0 : n ≠ 0) (k0 : k ≠ 0)
    (n1 : blen n ≤ 500) (e0 : -1000 ≤ e) (e1 : e ≤ 1000) (k1 : blen k ≤ 500) (f0 : -1000 ≤ f) (f1 : f ≤ 1000) :
    Calls Tryd.prog 92 #[.agg #[.int .i64 2, .bool s, va, .int .i64 e, .bool false], .agg #[.int .i64 2, .bool t, vb, .int .i64 f, .bool false]] w
      fun x w' => ∃ v, x = .returned v ∧ NumAt w' v (.fin (s != t) (n * 2 ^ shV n k / k) (e - f - (shV n k : Int)) (!decide (n * 2 ^ shV n k % k = 0))) ∧ Q w w' := by
  obtain ⟨pa, ba, La, Ca, rfl, hnI⟩ := hn
  obtain ⟨pb, bb, Lb, Cb, rfl, hkI⟩ := hk
  have HNA : Hid (NatAt w (.slice pa La Ca) n) := ⟨pa, ba, La, Ca, rfl, hnI⟩
  have HKA : Hid (NatAt w (.slice pb Lb Cb) k) := ⟨pb, bb, Lb, Cb, rfl, hkI⟩
  obtain ⟨sh, hsh⟩ : ∃ sh, sh = shV n k := ⟨_, rfl⟩
  rw [← hsh]
  have hshb : sh ≤ 560 := by rw [hsh]; unfold shV; omega
  obtain ⟨A, hA⟩ : ∃ A, A = n * 2 ^ sh := ⟨_, rfl⟩
  rw [← hA]
  have hAb : blen A = blen n + sh := by rw [hA]; exact blen_mul_pow n0 sh
  have HAC : Hid (A < cap) := lt_cap (blen_lt A) (by omega)
  have hle : blen k ≤ blen A := by rw [hAb, hsh]; unfold shV; omega
  have HST : Hid _ := div_start (A := A) (d := k) (by omega) hle
  have zn : zeroB (.fin s n e false) = false := by show (decide (n = 0) && !false) = false; rw [decide_eq_false n0]; rfl
  have zk : zeroB (.fin t k f false) = false := by show (decide (k = 0) && !false) = false; rw [decide_eq_false k0]; rfl
  have HZN : Hid _ := zn
  have HZK : Hid _ := zk
  have HSH : Hid _ := hsh
  have HA : Hid _ := hA
  obtain ⟨I, hI⟩ : ∃ I, I = blen A - blen k := ⟨_, rfl⟩
  have HI : Hid _ := hI
  have hIz : (blen A : Int) - (blen k : Int) = (I : Int) := by omega
  have hIb : I ≤ 2000 := by omega
  have HCY : Hid (∀ i, i ≤ 2000 → k * 2 ^ i < cap) := fun i hi => lt_cap (shifted_lt k i (Nat.le_refl _)) (by omega)
  have HC2 : Hid (∀ i, i ≤ 2000 → 1 * 2 ^ i < cap) := fun i hi => lt_cap (k := i + 1) (by rw [Nat.one_mul]; exact Nat.pow_lt_pow_right (by decide) (by omega)) (by omega)
  have hk1 : 1 ≤ k := by omega
  clear zn zk hsh hA hI hle hAb
  go_enter Tryd.func92, Tryd.ntmps92
  go_wp2_with fail
  refine (zero_any _ (.fin s n e false) _ ((((Q.refl w).cells _ _).cells _ _).cells _ _ |>.num ⟨_, rfl, HNA.out⟩)).mono ?_
  rintro x w1 ⟨rfl, c1, rfl⟩
  rw [HZN.out]
  go_wp2_with fail
  refine (zero_any _ (.fin t k f false) _ (((((Q.refl w).cells _ _).cells _ _).cells _ _).cells _ _ |>.num ⟨_, rfl, HKA.out⟩)).mono ?_
  rintro x w1 ⟨rfl, c2, rfl⟩
  rw [HZK.out]
  go_wp2_with fail
  refine (zero_any _ (.fin s n e false) _ ((((((Q.refl w).cells _ _).cells _ _).cells _ _).cells _ _).cells _ _ |>.num ⟨_, rfl, HNA.out⟩)).mono ?_
  rintro x w1 ⟨rfl, c3, rfl⟩
  rw [HZN.out]
  go_upto_region 8 with fail
  go_cut [6] from 11 (fun s6 wc => s6 = .int .i64 sh ∧ TBox w wc (.slice pa La Ca) (.slice pb Lb Cb) e f)
  case first =>
    have wk : IntKind.i64.wrap ((blen k : Int) - (blen n : Int)) = (blen k : Int) - (blen n : Int) := by rw [IntKind.wrap_i64]; omega
    have qw := ((((((Q.refl w).cells #[.int .i64 2, .bool s, .slice pa La Ca, .int .i64 e, .bool false] 80).cells #[.int .i64 2, .bool t, .slice pb Lb Cb, .int .i64 f, .bool false] 80).cells #[.int .i64 0, .bool false, .slice none 0 0, .int .i64 0, .bool false] 80).cells c1 80).cells c2 80).cells c3 80
    go_region_held3 (fun w' => w'.cell? ⟨w.heap.size, 2, none⟩ = some (.slice pa La Ca) ∧ w'.cell? ⟨w.heap.size + 1, 2, none⟩ = some (.slice pb Lb Cb)) (first | (simp [go_sem]; done)) (first | (go_at_call_of 81 (Value.slice pb Lb Cb); refine (bits_any _ k _ (Q.nat qw.drew HKA.out)).mono ?_; rintro x v1 ⟨rfl, rfl⟩) | (go_at_call_of 81 (Value.slice pa La Ca); refine (bits_any _ n _ (Q.nat qw.drew HNA.out)).mono ?_; rintro x v1 ⟨rfl, rfl⟩))
    all_goals go_wp2_with fail
    all_goals
      go_meet
      case rel =>
        go_light
        refine ⟨congrArg (Value.int .i64) (by rw [IntKind.wrap_i64]; have := HSH.out; unfold shV at this; omega), qw.drew, by simp [go_sem], by simp [go_sem], by simp [go_sem], by simp [go_sem], ⟨by simp [go_sem], by simp [go_sem], by simp [go_sem], by simp [go_sem], by simp [go_sem], fun i => by simp [go_sem]⟩⟩
  case rest =>
    obtain ⟨rfl, hB⟩ := hcut
    have a2 := hB.a2
    have b2 := hB.b2
    go_wp2_with fail
    refine (up_any _ n sh _ (hB.q.nat HNA.out) (by rw [← HA.out]; exact HAC.out)).mono ?_
    rintro x w1 ⟨v1, rfl, hv1, q1⟩
    rw [← HA.out] at hv1
    have hB1 := hB.next q1
    have b2 := hB1.b2
    have HV1 : Hid _ := hv1
    clear hv1 hB a2
    go_upto_region 11 with fail
    go_cut [9] from 11 (fun s9 wc => s9 = .int .i64 I ∧ Q w1 wc)
    case first =>
      have wI : IntKind.i64.wrap (I : Int) = (I : Int) := by rw [IntKind.wrap_i64]; omega
      go_region_held3 (fun w' => w'.cell? ⟨w.heap.size + 1, 2, none⟩ = some (.slice pb Lb Cb) ∧ True) (first | (refine ⟨?_, trivial⟩; assumption) | (simp [b2]; done)) (first | (go_at_call_of 81 (Value.slice pb Lb Cb); refine (bits_any _ k _ (Q.nat (hB1.q.drew) HKA.out)).mono ?_; rintro x v2 ⟨rfl, rfl⟩) | (go_at_call_of 81 v1; refine (bits_any _ A _ (Q.nat (Q.refl _).drew HV1.out)).mono ?_; rintro x v2 ⟨rfl, rfl⟩))
      all_goals
        go_wp2_with fail
        go_meet
        case rel => go_light; exact ⟨rfl, (Q.refl _).drew⟩
    case rest =>
      obtain ⟨rfl, q2⟩ := hcut
      have hB2 := hB1.next q2
      have HV2 : Hid _ := q2.nat HV1.out
      clear hB1 b2 q2 q1 HV1
      go_wp2_with fail
      go_loopg [7, 8, 9] (I + 1) (fun g s7 s8 s9 wr => ∃ rest q : Nat, NatAt wr s7 rest ∧ NatAt wr s8 q ∧ rest + k * q = A ∧ rest < k * 2 ^ g ∧ ((g = 0 ∧ s9 = .int .i64 (-1)) ∨ ∃ i : Nat, g = i + 1 ∧ i ≤ 2000 ∧ s9 = .int .i64 i) ∧ TBox w wr (.slice pa La Ca) (.slice pb Lb Cb) e f)
      case atStart => exact ⟨A, 0, HV2.out, nat_nil _, by rw [Nat.mul_zero, Nat.add_zero], by rw [HI.out]; exact HST.out, Or.inr ⟨I, rfl, hIb, rfl⟩, hB2⟩
      case round =>
        obtain ⟨rest, q, h7, h8, hrq, hlt, ⟨rfl, rfl⟩ | ⟨i, rfl, hi, rfl⟩, hB3⟩ := hrel
        · obtain ⟨hq, hr⟩ := div_end hrq hlt
          obtain ⟨p8, b8, L8, C8, rfl, hI8⟩ := h8
          obtain ⟨p7, b7, L7, C7, rfl, hI7⟩ := h7
          have hz := hI7.pos
          have a3 := hB3.a3
          have b3 := hB3.b3
          have d0 := hB3.r.c0
          have d1 := hB3.r.c1
          have d2 := hB3.r.c2
          have d3 := hB3.r.c3
          have d4 := hB3.r.c4
          have y0 := hB3.r.z 0
          have y1 := hB3.r.z 1
          have y2 := hB3.r.z 2
          have y3 := hB3.r.z 3
          have y4 := hB3.r.z 4
          have HQ : Hid _ := hq
          have HRR : Hid _ := hr
          have HZZ : Hid _ := hz
          clear hq hr hz hrq hlt hI7 hIz
          go_wp2_with fail
          refine bodyPost_ret (v := .agg #[.int .i64 2, .bool (s != t), .slice p8 L8 C8, .int .i64 (e - f - (sh : Int)), .bool (decide (0 < (L7 : Int)))]) (by cases s <;> cases t <;> simp [results, Tryd.results92, go_sem, d0, d1, d2, d3, d4]) rfl ⟨_, rfl, ?_, ?_⟩
          · rw [← HQ.out, show (!decide (A % k = 0)) = decide (0 < (L7 : Int)) from by
              rw [← HRR.out]
              by_cases g : rest = 0
              · rw [decide_eq_true g, decide_eq_false (by have := HZZ.out.1 g; omega)]; rfl
              · rw [decide_eq_false g, decide_eq_true (by have : L7 ≠ 0 := fun c => g (HZZ.out.2 c); omega)]; rfl]
            exact ⟨_, rfl, natAt_but ⟨p8, b8, L8, C8, rfl, hI8⟩ d0 (fun a ha => by repeat rw [set_but _ ha])⟩
          · exact ((((hB3.q.set (far2 w) _).set (far2 w) _).set (far2 w) _).set (far2 w) _).set (far2 w) _
        · have hiz : (0 : Int) ≤ (i : Int) := by omega
          have b2 := hB3.b2
          have HRQ : Hid _ := hrq
          have HLT : Hid _ := hlt
          clear hrq hlt
          go_wp2_with fail
          refine (up_any _ k i _ (hB3.q.nat HKA.out) (HCY.out i hi)).mono ?_
          rintro x w4 ⟨v4, rfl, hv4, q4⟩
          have h7' := q4.nat h7
          have h8' := q4.nat h8
          have hB4 := hB3.next q4
          go_wp2_with fail
          refine (compare_any _ _ rest (k * 2 ^ i) _ h7' hv4).mono ?_
          rintro x w5 ⟨rfl, q5⟩
          have HH7 : Hid _ := q5.nat h7'
          have HH8 : Hid _ := q5.nat h8'
          have HHY : Hid _ := q5.nat hv4
          have hB5 := hB4.next q5
          clear h7 h8 h7' h8' hv4 hB3 hB4
          by_cases hc : k * 2 ^ i ≤ rest
          · have ec : cmpV rest (k * 2 ^ i) = 0 ∨ cmpV rest (k * 2 ^ i) = 1 := by
              unfold cmpV
              rw [if_neg (by omega)]
              split <;> simp
            have HC : Hid _ := hc
            have hrA : rest ≤ A := by have := HRQ.out; omega
            have HR1 : Hid (rest < cap) := Nat.lt_of_le_of_lt hrA HAC.out
            have HR2 : Hid (q + 1 * 2 ^ i < cap) := by
              refine Nat.lt_of_le_of_lt ?_ HAC.out
              have h1 : 1 * q ≤ k * q := Nat.mul_le_mul_right _ hk1
              have h2 : 1 * 2 ^ i ≤ k * 2 ^ i := Nat.mul_le_mul_right _ hk1
              have := HRQ.out
              omega
            clear hrA hc
            rcases ec with ec | ec
            all_goals
              rw [ec]
              clear ec
              go_wp2_with fail
              refine (minus_any _ _ rest (k * 2 ^ i) _ HH7.out HHY.out HR1.out HC.out).mono ?_
              rintro x w6 ⟨v6, rfl, hv6, q6⟩
              go_wp2_with fail
              refine (natof_nat 1 _ (by decide)).mono ?_
              rintro x w7 ⟨v7, rfl, hv7, q7⟩
              go_wp2_with fail
              refine (up_any _ 1 i _ hv7 (HC2.out i hi)).mono ?_
              rintro x w8 ⟨v8, rfl, hv8, q8⟩
              go_wp2_with fail
              refine (plus_any _ _ q (1 * 2 ^ i) _ ((((q6.trans q7).trans q8)).nat HH8.out) hv8 HR2.out).mono ?_
              rintro x w9 ⟨v9, rfl, hv9, q9⟩
              go_wp2_with fail
              go_roundg i
              case measure => go_light; omega
              case rel =>
                go_light
                refine ⟨rest - k * 2 ^ i, q + 1 * 2 ^ i, ((q7.trans q8).trans q9).nat hv6, hv9, ?_, div_step HLT.out HC.out, ?_, (((hB5.next q6).next q7).next q8).next q9⟩
                · have h1 := HRQ.out
                  have h2 := HC.out
                  rw [Nat.one_mul, Nat.mul_add]
                  omega
                · rcases Nat.eq_zero_or_pos i with h0 | h0
                  · exact Or.inl ⟨h0, by rw [h0]; rfl⟩
                  · exact Or.inr ⟨i - 1, by omega, by omega, congrArg (Value.int .i64) (by omega)⟩
          · have ec : cmpV rest (k * 2 ^ i) = -1 := by unfold cmpV; rw [if_pos (by omega)]
            rw [ec]
            clear ec
            go_wp2_with fail
            go_roundg i
            case measure => go_light; omega
            case rel =>
              go_light
              refine ⟨rest, q, HH7.out, HH8.out, HRQ.out, by omega, ?_, hB5⟩
              rcases Nat.eq_zero_or_pos i with h0 | h0
              · exact Or.inl ⟨h0, by rw [h0]; rfl⟩
              · exact Or.inr ⟨i - 1, by omega, by omega, congrArg (Value.int .i64) (by omega)⟩
end Go.Proofs.YtjjjgdpgfndbdaaDoor
