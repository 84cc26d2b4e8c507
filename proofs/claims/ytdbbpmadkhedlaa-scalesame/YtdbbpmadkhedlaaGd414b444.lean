/- Cubic: sizes of weights together are at most four times their sum; what it makes of samples that are not great is finite. Plain. -/
import Derived.Test.YtdbbpmadkhedlaaGb0e9e536
import Derived.Test.YtdbbpmadkhedlaaGa9056aa6
namespace Go.Proofs.Ytdbbpmadkhedlaa
open Go.RowKit
set_option linter.unusedVariables false
set_option linter.unusedSimpArgs false

/-- Four times a number, less its size. -/
def hgh (z : Int) : Int := 4 * z - (z.natAbs : Int)
theorem hgh_pos {z : Int} (h : 0 ≤ z) : hgh z = 3 * z := by unfold hgh; omega
theorem hgh_low (z : Int) : 5 * z ≤ hgh z ∨ 0 ≤ z ∧ hgh z = 3 * z := by unfold hgh; omega
theorem high_cubic {F T i : Nat} (h : Sz F T i) : 0 ≤ sumF (fun j => hgh (wfV 3 F T i (fstV 3 F T i + j))) (winV 3 F T i) := by
  obtain ⟨w1, w2, w3, w4⟩ := win_eq (kind := 3) h
  have hm0 : 0 < ((max F T : Nat) : Int) := by have := h.f1; omega
  have hmT : (T : Int) ≤ ((max F T : Nat) : Int) := by omega
  have hst : 0 < 2 * (T : Int) := by have := h.t1; omega
  obtain ⟨st, hs⟩ : ∃ st, 2 * (T : Int) = st := ⟨_, rfl⟩
  have hww : winV 3 F T i = (lstV 3 F T i - fstV 3 F T i + 1).toNat := rfl
  have hre : rea 3 ((max F T : Nat) : Int) = 4 * ((max F T : Nat) : Int) := rfl
  have hwf : ∀ k, wfV 3 F T i k = cubV (absI (st * k - midV F T i)) (2 * ((max F T : Nat) : Int)) := fun k => by rw [← hs]; rfl
  rw [hre] at w1 w2 w3 w4
  rw [hs] at w1 w2 w3 w4 hst
  generalize ((max F T : Nat) : Int) = m at *
  generalize midV F T i = mid at *
  generalize fstV 3 F T i = fs at *
  generalize lstV 3 F T i = ls at *
  generalize winV 3 F T i = N at *
  have hst2 : st ≤ 2 * m := by omega
  -- how many steps fit into 2 m
  obtain ⟨q, hq1, hq2, hq0⟩ : ∃ q, st * q ≤ 2 * m ∧ 2 * m < st * (q + 1) ∧ 1 ≤ q := by
    have a1 := Int.mul_ediv_add_emod (2 * m) st
    have a2 := Int.emod_nonneg (2 * m) (by omega : st ≠ 0)
    have a3 := Int.emod_lt_of_pos (2 * m) hst
    refine ⟨2 * m / st, by omega, by rw [Int.mul_add]; omega, ?_⟩
    exact (Int.le_ediv_iff_mul_le hst).2 (by omega)
  have le_of : ∀ a b : Int, st * a < st * b + st → a ≤ b := fun a b hh => by
    rcases Int.lt_or_le b a with c | c
    · have h2 : st * (b + 1) ≤ st * a := Int.mul_le_mul_of_nonneg_left (by omega) (by omega)
      rw [Int.mul_add] at h2
      omega
    · exact c
  have pa := kx_prop (st := st) (mid := mid) (x := -(2 * m) + 1) hst
  have pc := kx_prop (st := st) (mid := mid) (x := -m) hst
  have pd := kx_prop (st := st) (mid := mid) (x := m) hst
  have pb := kx_prop (st := st) (mid := mid) (x := 2 * m) hst
  have ga : ∀ k, kx st mid (-(2 * m) + 1) ≤ k → mid + (-(2 * m) + 1) ≤ st * k := fun k hk => kx_ge hst hk
  have gc : ∀ k, kx st mid (-m) ≤ k → mid + -m ≤ st * k := fun k hk => kx_ge hst hk
  have gd : ∀ k, k < kx st mid m → st * k < mid + m := fun k hk => kx_lt hst hk
  have gb : ∀ k, k < kx st mid (2 * m) → st * k < mid + 2 * m := fun k hk => kx_lt hst hk
  obtain ⟨a, ha⟩ : ∃ a, kx st mid (-(2 * m) + 1) = a := ⟨_, rfl⟩
  obtain ⟨c, hc⟩ : ∃ c, kx st mid (-m) = c := ⟨_, rfl⟩
  obtain ⟨e, he⟩ : ∃ e, kx st mid m = e := ⟨_, rfl⟩
  obtain ⟨b, hb⟩ : ∃ b, kx st mid (2 * m) = b := ⟨_, rfl⟩
  rw [ha] at pa ga
  rw [hc] at pc gc
  rw [he] at pd gd
  rw [hb] at pb gb
  have o1 : fs + 1 ≤ a := by
    have := le_of (fs + 1) a (by rw [Int.mul_add]; omega)
    exact this
  have o2 : a ≤ c := le_of a c (by omega)
  have o3 : c ≤ e := le_of c e (by omega)
  have o4 : e ≤ b := le_of e b (by omega)
  have o5 : b ≤ ls + 1 := le_of b (ls + 1) (by rw [Int.mul_add]; omega)
  -- how many there are
  have n1 : a - fs - 1 ≤ q + 1 := le_of _ _ (by rw [Int.mul_sub, Int.mul_sub]; simp only [Int.mul_add, Int.mul_one] at hq2 ⊢; omega)
  have n2 : q ≤ e - c := le_of _ _ (by rw [Int.mul_sub]; omega)
  have n3 : ls - b ≤ q := le_of _ _ (by rw [Int.mul_sub]; simp only [Int.mul_add, Int.mul_one] at hq2; omega)
  have hm3 : 0 < m * m * m := Int.mul_pos (Int.mul_pos hm0 hm0) hm0
  have abs0 : ∀ d, 0 ≤ absI d := fun d => by unfold absI; omega
  have key := six (f := fun j => 27 * hgh (wfV 3 F T i (fs + j))) (A := (a - fs).toNat) (C1 := (c - fs).toNat) (C2 := (e - fs).toNat) (B := (b - fs).toNat) (N := N) (L := -(160 * (m * m * m))) (H := 729 * (m * m * m)) (by omega) (by omega) (by omega) (by omega) (by omega)
    (by
      show 0 ≤ 27 * hgh (wfV 3 F T i (fs + 0))
      rw [hwf, Int.add_zero]
      have hout : 2 * (2 * m) ≤ absI (st * fs - mid) := by unfold absI; omega
      unfold cubV
      rw [if_neg (by omega), if_neg (by omega)]
      decide)
    (fun j _ _ => by rw [hwf]; have := cub_low (c := absI (st * (fs + j) - mid)) (abs0 _) hm0; have := hgh_low (cubV (absI (st * (fs + j) - mid)) (2 * m)); omega)
    (fun j j1 j2 => by
      rw [hwf]
      have g1 := ga (fs + j) (by omega)
      have g2 := gb (fs + j) (by omega)
      have := (cub_near (abs0 _) (show absI (st * (fs + j) - mid) < 2 * m by unfold absI; omega)).1
      have := hgh_pos this
      omega)
    (fun j j1 j2 => by
      rw [hwf]
      have g1 := gc (fs + j) (by omega)
      have g2 := gd (fs + j) (by omega)
      have := cub_mid (abs0 _) (show absI (st * (fs + j) - mid) ≤ m by unfold absI; omega) hm0
      have := hgh_pos (show 0 ≤ cubV (absI (st * (fs + j) - mid)) (2 * m) by omega)
      omega)
    (fun j j1 j2 => by
      rw [hwf]
      have g1 := ga (fs + j) (by omega)
      have g2 := gb (fs + j) (by omega)
      have := (cub_near (abs0 _) (show absI (st * (fs + j) - mid) < 2 * m by unfold absI; omega)).1
      have := hgh_pos this
      omega)
    (fun j _ _ => by rw [hwf]; have := cub_low (c := absI (st * (fs + j) - mid)) (abs0 _) hm0; have := hgh_low (cubV (absI (st * (fs + j) - mid)) (2 * m)); omega)
  rw [sumF_mul] at key
  generalize m * m * m = M at *
  have b1 : (((a - fs).toNat - 1 : Nat) : Int) * (160 * M) ≤ (q + 1) * (160 * M) := Int.mul_le_mul_of_nonneg_right (by omega) (by omega)
  have b2 : q * (729 * M) ≤ (((e - fs).toNat - (c - fs).toNat : Nat) : Int) * (729 * M) := Int.mul_le_mul_of_nonneg_right (by omega) (by omega)
  have b3 : ((N - (b - fs).toNat : Nat) : Int) * (160 * M) ≤ (q + 1) * (160 * M) := Int.mul_le_mul_of_nonneg_right (by omega) (by omega)
  have b4 : 1 * M ≤ q * M := Int.mul_le_mul_of_nonneg_right hq0 (by omega)
  simp only [Int.mul_neg] at key
  have e1 : q * (729 * M) = 729 * (q * M) := by grind
  have e2 : (q + 1) * (160 * M) = 160 * (q * M) + 160 * M := by grind
  rw [e1] at b2
  rw [e2] at b1 b3
  omega

theorem absL_runF {f pl : Int → Int} {a : Int} : ∀ n : Nat, absL (wrun f pl a n) ≤ absF (fun j => f (a + j)) n
  | 0 => by simp [wrun, absL]
  | n + 1 => by
    have := absL_runF (f := f) (pl := pl) (a := a) n
    have h2 := absL_put (wrun f pl a n) (pl (a + n)) (f (a + n))
    unfold absF
    show absL (wput _ _ _) ≤ _
    omega
theorem sumF_hgh (f : Nat → Int) : ∀ n, sumF (fun j => hgh (f j)) n = 4 * sumF f n - (absF f n : Int)
  | 0 => by simp [sumF, absF]
  | n + 1 => by
    unfold sumF absF
    rw [sumF_hgh f n]
    unfold hgh
    omega
theorem wls_abs3 {F T i : Nat} (h : Sz F T i) : (absL (wlsV 3 F T i) : Int) ≤ 4 * sndSum (wlsV 3 F T i) := by
  have h1 := high_cubic h
  rw [sumF_hgh, ← wls_sum] at h1
  have h2 : absL (wlsV 3 F T i) ≤ absF (fun j => wfV 3 F T i (fstV 3 F T i + j)) (winV 3 F T i) := absL_runF _
  omega
theorem tpA_abs3 {F T i : Int} (h : tapE 3 F T i = 0) : absL (tpA 3 F T i) ≤ 524288 := by
  obtain ⟨hk, hz, e1, e2, e3⟩ := tapE_ok h
  have hS := wls_pos hk hz
  have ha := wls_abs3 hz
  have hl := (wls_bound (kind := 3) hz).1
  have etp : tpA 3 F T i = tapsL (wlsV 3 F.toNat T.toNat i.toNat) := by unfold tpA; rw [if_pos h]
  rw [etp]
  unfold tapsL
  generalize wlsV 3 F.toNat T.toNat i.toNat = L at *
  rw [tpK_abs]
  have hz1 : absF (zf (L.map Prod.snd)) L.length = absL L := by
    have := absF_zf (L.map Prod.snd) L.length (by rw [List.length_map]; exact Nat.le_refl _)
    rw [this, List.take_of_length_le (by rw [List.length_map]; exact Nat.le_refl _), List.map_map]
    rfl
  rw [sndSum_zf] at hS ha
  have hf := flo_abs (z := zf (L.map Prod.snd)) hS L.length
  have hs := absF_le (f := shrV (zf (L.map Prod.snd)) L.length) (g := flo (zf (L.map Prod.snd)) (sumF (zf (L.map Prod.snd)) L.length)) (fun i => by
    unfold shrV shrK
    split <;> omega) L.length
  rw [hz1] at hf
  generalize sumF (zf (L.map Prod.snd)) L.length = S at *
  have h3 : S * (absF (flo (zf (L.map Prod.snd)) S) L.length : Int) ≤ S * 262206 := by
    have : (L.length : Int) * S ≤ 62 * S := Int.mul_le_mul_of_nonneg_right (by omega) (by omega)
    omega
  have h4 : (absF (flo (zf (L.map Prod.snd)) S) L.length : Int) ≤ 262206 := Int.le_of_mul_le_mul_left h3 hS
  omega
theorem RN_times {x : Nat} (hx : rung32 x < 2139095040) {k : Int} (hk : k.natAbs ≤ 2 ^ 28) : RN (k * sampleZ x) = k * sampleZ x := by
  obtain ⟨m, g, a, b, c⟩ := X_formq hx
  have := (kX_valq a b c hk).1
  unfold RN
  split <;> omega
/-- Sums of numbers that are not great, each rounded. -/
theorem rsum_cap {x : Nat} (hx : rung32 x < 2139095040) (h0 : 0 ≤ sampleZ x) : ∀ (l : List (Nat × Int)) (z : Int) (k : Nat), -((k : Int) * sampleZ x) ≤ z ∧ z ≤ (k : Int) * sampleZ x → (∀ p ∈ l, -((p.1 : Int) * sampleZ x) ≤ p.2 ∧ p.2 ≤ (p.1 : Int) * sampleZ x) → k + (l.map Prod.fst).sum ≤ 2 ^ 28 → -(((k + (l.map Prod.fst).sum : Nat) : Int) * sampleZ x) ≤ rsum (l.map Prod.snd) z ∧ rsum (l.map Prod.snd) z ≤ ((k + (l.map Prod.fst).sum : Nat) : Int) * sampleZ x
  | [], z, k, hz, _, _ => by simpa [rsum] using hz
  | p :: t, z, k, hz, hl, hk => by
    have hp := hl p (List.mem_cons_self ..)
    rw [List.map_cons, List.sum_cons] at hk ⊢
    have e : ((k + p.1 : Nat) : Int) * sampleZ x = (k : Int) * sampleZ x + (p.1 : Int) * sampleZ x := by rw [Int.natCast_add, Int.add_mul]
    have u := RNq_mono (Y := z + p.2) (Z := ((k + p.1 : Nat) : Int) * sampleZ x) (by omega)
    have v := RNq_mono (Z := z + p.2) (Y := (-((k + p.1 : Nat) : Int)) * sampleZ x) (by rw [Int.neg_mul]; omega)
    rw [RN_times hx (by omega)] at u v
    rw [Int.neg_mul] at v
    have ih := rsum_cap hx h0 t (RN (z + p.2)) (k + p.1) ⟨v, u⟩ (fun q hq => hl q (List.mem_cons_of_mem _ hq)) (by omega)
    rw [Nat.add_assoc] at ih
    exact ih
theorem samp_cap {x y : Nat} (h : rung32 y ≤ rung32 x) (hs : sgn32 x = false) : -(sampleZ x) ≤ sampleZ y ∧ sampleZ y ≤ sampleZ x := by
  have hv := val_le32 h
  obtain ⟨c, hc⟩ : ∃ c : Nat, c = 925 := ⟨_, rfl⟩
  have e1 := samp_eq x hc
  have e2 := samp_eq y hc
  have p : (0 : Int) ≤ 2 ^ c := Int.le_of_lt (Int.pow_pos (by decide))
  have a1 : sval32 x = (val32 (rung32 x) : Int) := by unfold sval32; rw [hs]; rfl
  have a2 : -(val32 (rung32 x) : Int) ≤ sval32 y ∧ sval32 y ≤ (val32 (rung32 x) : Int) := by unfold sval32; split <;> omega
  have b1 := Int.mul_le_mul_of_nonneg_right a2.1 p
  have b2 := Int.mul_le_mul_of_nonneg_right a2.2 p
  rw [e1, e2, a1]
  rw [Int.neg_mul] at b1
  exact ⟨b1, b2⟩
/-- One pass of taps whose sizes are at most 8 together. -/
theorem cub_pass {m : Nat} {L : List (Int × Int)} {S : List Nat} {P R : Nat} (ok : TOk m L) (ha : absL L ≤ 524288) (hP : rung32 P < 2139095040) (hR : rung32 R < 2139095040) (sP : sgn32 P = false) (sR : sgn32 R = false) (hPR : sampleZ R = 8 * sampleZ P) (h0 : 0 ≤ sampleZ P) (hS : ∀ e ∈ L, rung32 (S.getD e.1.toNat 0) ≤ rung32 P) : rung32 (smpV L S) ≤ rung32 R := by
  obtain ⟨Y, y1, y2, -⟩ := smp_key ok (fun e he => Nat.lt_of_le_of_lt (hS e he) hP)
  have c := rsum_cap hP h0 (L.map fun e => (e.2.natAbs, e.2 * sampleZ (S.getD e.1.toNat 0))) 0 0 (by simp) (fun p hp => by
    obtain ⟨e, he, rfl⟩ := List.mem_map.1 hp
    obtain ⟨s1, s2⟩ := samp_cap (hS e he) sP
    show -(((e.2.natAbs : Nat) : Int) * sampleZ P) ≤ e.2 * sampleZ (S.getD e.1.toNat 0) ∧ e.2 * sampleZ (S.getD e.1.toNat 0) ≤ ((e.2.natAbs : Nat) : Int) * sampleZ P
    generalize sampleZ (S.getD e.1.toNat 0) = X at *
    generalize sampleZ P = Z at *
    rcases Int.le_total 0 e.2 with g | g
    · have t1 := Int.mul_le_mul_of_nonneg_left s1 g
      have t2 := Int.mul_le_mul_of_nonneg_left s2 g
      rw [show ((e.2.natAbs : Nat) : Int) = e.2 by omega]
      rw [Int.mul_neg] at t1
      exact ⟨t1, t2⟩
    · have t1 := Int.mul_le_mul_of_nonneg_left s1 (show 0 ≤ -e.2 by omega)
      have t2 := Int.mul_le_mul_of_nonneg_left s2 (show 0 ≤ -e.2 by omega)
      rw [show ((e.2.natAbs : Nat) : Int) = -e.2 by omega]
      simp only [Int.neg_mul, Int.mul_neg] at t1 t2 ⊢
      omega) (by
    rw [List.map_map, Nat.zero_add]
    have : (2 : Nat) ^ 28 = 268435456 := by decide
    have e : (L.map (Prod.fst ∘ fun e => (e.2.natAbs, e.2 * sampleZ (S.getD e.1.toNat 0)))).sum = absL L := rfl
    omega)
  rw [List.map_map, List.map_map, Nat.zero_add] at c
  have e : (L.map (Prod.fst ∘ fun e => (e.2.natAbs, e.2 * sampleZ (S.getD e.1.toNat 0)))).sum = absL L := rfl
  have e2 : rsum (L.map (Prod.snd ∘ fun e => (e.2.natAbs, e.2 * sampleZ (S.getD e.1.toNat 0)))) 0 = smZ L S := rfl
  rw [e, e2, y1] at c
  have t : (absL L : Int) * sampleZ P ≤ 524288 * sampleZ P := Int.mul_le_mul_of_nonneg_right (by omega) h0
  have m1 := RS_mono (Y := Y) (Z := sampleZ R) (by omega)
  have m2 := RS_mono (Y := -sampleZ R) (Z := Y) (by omega)
  have hneg : RS (-sampleZ R) = -(srung32 R) := by
    have hs := RS_self hR
    have h8 : 0 ≤ sampleZ R := by omega
    unfold RS at hs ⊢
    rw [Int.natAbs_neg]
    by_cases z : sampleZ R = 0
    · rw [z] at hs ⊢
      simp only [Int.natAbs_zero, rungOf_zero] at hs ⊢
      rw [← hs]; decide
    · rw [if_neg (by omega)] at hs
      rw [if_pos (by omega), hs]
  rw [RS_self hR, ← y2] at m1
  rw [hneg, ← y2] at m2
  have hr : srung32 R = (rung32 R : Int) := by unfold srung32; rw [sR]; rfl
  rw [hr] at m1 m2
  unfold srung32 at m1 m2
  split at m1 <;> split at m2 <;> omega
theorem pow_samp {k : Nat} (hk : 1 ≤ k) (hk2 : k < 255) {c : Nat} (hc : c = k + 947) : sampleZ (k * 8388608) = 2 ^ c ∧ rung32 (k * 8388608) = k * 8388608 ∧ sgn32 (k * 8388608) = false := by
  have hr : rung32 (k * 8388608) = k * 8388608 := by unfold rung32; omega
  have hs : sgn32 (k * 8388608) = false := by unfold sgn32; rw [beq_eq_false_iff_ne]; omega
  refine ⟨?_, hr, hs⟩
  unfold sampleZ
  rw [hr, hs]
  have hm : mag32 (k * 8388608) = 8388608 := by unfold mag32 plc32; omega
  have hp : plc32 (k * 8388608) = k - 1 := by unfold plc32; omega
  rw [hm, hp, signed_eqq, if_neg (by decide), show (8388608 : Nat) = 2 ^ 23 by decide, ← Nat.pow_add, show 23 + (k - 1 + 925) = c by omega, Int.natCast_pow]
  rfl
theorem cub_fin {pa pb W H X Y : Nat} {S : List Nat} (hX : tapE 3 pa W X = 0) (hY : tapE 3 pb H Y = 0) (hS : ∀ i, i < pa * pb → rung32 (S.getD i 0) ≤ 2071986176) : rung32 (whlV 3 pa pb W H S X Y) < 2139095040 := by
  have t1 : TOk pa (tpA 3 pa W X) := tpA_tok hX
  have t2 : TOk pb (tpA 3 pb H Y) := tpA_tok hY
  obtain ⟨c, hc⟩ : ∃ c : Nat, c = 1194 := ⟨_, rfl⟩
  obtain ⟨p1, p2, p3⟩ := pow_samp (k := 247) (by decide) (by decide) (c := c) (by omega)
  obtain ⟨q1, q2, q3⟩ := pow_samp (k := 250) (by decide) (by decide) (c := c + 3) (by omega)
  obtain ⟨r1, r2, r3⟩ := pow_samp (k := 253) (by decide) (by decide) (c := c + 6) (by omega)
  have hpos : (0 : Int) ≤ 2 ^ c := Int.le_of_lt (Int.pow_pos (by decide))
  have e3 : (2 : Int) ^ (c + 3) = 8 * 2 ^ c := by rw [Int.pow_add, Int.mul_comm]; rfl
  have e6 : (2 : Int) ^ (c + 6) = 8 * 2 ^ (c + 3) := by rw [show c + 6 = c + 3 + 3 by omega, Int.pow_add, Int.mul_comm]; rfl
  have hcol : ∀ y, y < pb → rung32 (colV (tpA 3 pa W X) S pa y) ≤ rung32 (250 * 8388608) := fun y hy => by
    unfold colV
    refine cub_pass t1 (tpA_abs3 hX) (by rw [p2]; decide) (by rw [q2]; decide) p3 q3 (by rw [p1, q1]; exact e3) (by rw [p1]; exact hpos) (fun e he => ?_)
    have h := t1.pl e he
    have hi : e.1.toNat < pa := by omega
    have hin : y * pa + e.1.toNat < pa * pb := by
      have : (y + 1) * pa ≤ pb * pa := Nat.mul_le_mul_right _ hy
      rw [Nat.mul_comm pa pb]
      rw [Nat.add_mul, Nat.one_mul] at this
      omega
    rw [List.getD_eq_getElem?_getD, List.getElem?_drop, ← List.getD_eq_getElem?_getD, p2]
    exact hS _ hin
  have ew : whlV 3 pa pb W H S X Y = smpV (tpA 3 pb H Y) (tabN pb (colV (tpA 3 pa W X) S pa)) := rfl
  rw [ew]
  have := cub_pass (S := tabN pb (colV (tpA 3 pa W X) S pa)) t2 (tpA_abs3 hY) (by rw [q2]; decide) (by rw [r2]; decide) q3 r3 (by rw [q1, r1]; exact e6) (by rw [q1, e3]; omega) (fun e he => by
    have h := t2.pl e he
    have hi : e.1.toNat < pb := by omega
    rw [tabN_getD hi]
    exact hcol _ hi)
  rw [r2] at this
  omega
/-- Box and Tent: no new extremes; they rise. -/
theorem pos_taps {kind : Int} {pa W X : Nat} (hX : tapE kind pa W X = 0) (hk : kind ≠ 3) : TOk pa (tpA kind pa W X) ∧ sndSum (tpA kind pa W X) = 65536 ∧ (∀ e ∈ tpA kind pa W X, 0 < e.2) := by
  obtain ⟨hk1, hz1, -, -, -⟩ := tapE_ok hX
  have ok1 := taps_ok hk1 hz1
  have e1 : tpA kind pa W X = tapsL (wlsV kind pa W X) := by unfold tpA; rw [if_pos hX]; rfl
  refine ⟨tpA_tok hX, by rw [e1]; exact ok1.sum, fun e he => ?_⟩
  rw [e1] at he
  have := ok1.at_ e he
  have h1 := this.2.2.1
  have h2 := this.2.2.2.1 hk
  omega
theorem whl_between {kind : Int} {pa pb W H X Y : Nat} {S : List Nat} {lo hi : Nat} (hk : kind ≠ 3) (hX : tapE kind pa W X = 0) (hY : tapE kind pb H Y = 0) (hlo : rung32 lo < 2139095040 ∧ lo < 4294967296) (hhi : rung32 hi < 2139095040 ∧ hi < 4294967296) (hS : ∀ i, i < pa * pb → rung32 (S.getD i 0) < 2139095040 ∧ srung32 lo ≤ srung32 (S.getD i 0) ∧ srung32 (S.getD i 0) ≤ srung32 hi) :
    srung32 lo ≤ srung32 (whlV kind pa pb W H S X Y) ∧ srung32 (whlV kind pa pb W H S X Y) ≤ srung32 hi ∧ rung32 (whlV kind pa pb W H S X Y) < 2139095040 := by
  obtain ⟨t1, s1, p1⟩ := pos_taps hX hk
  obtain ⟨t2, s2, p2⟩ := pos_taps hY hk
  have hin : ∀ y, y < pb → ∀ e ∈ tpA kind pa W X, (S.drop (y * pa)).getD e.1.toNat 0 = S.getD (y * pa + e.1.toNat) 0 ∧ y * pa + e.1.toNat < pa * pb := fun y hy e he => by
    have h := t1.pl e he
    have hi : e.1.toNat < pa := by omega
    refine ⟨by rw [List.getD_eq_getElem?_getD, List.getElem?_drop, ← List.getD_eq_getElem?_getD], ?_⟩
    have : (y + 1) * pa ≤ pb * pa := Nat.mul_le_mul_right _ hy
    rw [Nat.mul_comm pa pb]
    rw [Nat.add_mul, Nat.one_mul] at this
    omega
  have hcol : ∀ y, y < pb → srung32 lo ≤ srung32 (colV (tpA kind pa W X) S pa y) ∧ srung32 (colV (tpA kind pa W X) S pa y) ≤ srung32 hi ∧ rung32 (colV (tpA kind pa W X) S pa y) < 2139095040 := fun y hy => by
    unfold colV
    refine smp_between t1 p1 s1 (tpA_abs hX) (fun e he => ?_) hlo hhi (fun e he => ?_) (fun e he => ?_)
    · rw [(hin y hy e he).1]; exact (hS _ (hin y hy e he).2).1
    · rw [(hin y hy e he).1]; exact (hS _ (hin y hy e he).2).2.1
    · rw [(hin y hy e he).1]; exact (hS _ (hin y hy e he).2).2.2
  have ew : whlV kind pa pb W H S X Y = smpV (tpA kind pb H Y) (tabN pb (colV (tpA kind pa W X) S pa)) := rfl
  rw [ew]
  have hg : ∀ e ∈ tpA kind pb H Y, e.1.toNat < pb := fun e he => by have h := t2.pl e he; omega
  refine smp_between t2 p2 s2 (tpA_abs hY) (fun e he => ?_) hlo hhi (fun e he => ?_) (fun e he => ?_)
  · rw [tabN_getD (hg e he)]; exact (hcol _ (hg e he)).2.2
  · rw [tabN_getD (hg e he)]; exact (hcol _ (hg e he)).1
  · rw [tabN_getD (hg e he)]; exact (hcol _ (hg e he)).2.1
theorem fin_lohi : rung32 4286578687 < 2139095040 ∧ rung32 2139095039 < 2139095040 ∧ srung32 4286578687 = -2139095039 ∧ srung32 2139095039 = 2139095039 := by decide
theorem whl_rises {kind : Int} {pa pb W H X Y : Nat} {S U : List Nat} (hk : kind ≠ 3) (hX : tapE kind pa W X = 0) (hY : tapE kind pb H Y = 0) (hS : ∀ i, i < pa * pb → rung32 (S.getD i 0) < 2139095040) (hU : ∀ i, i < pa * pb → rung32 (U.getD i 0) < 2139095040) (hle : ∀ i, i < pa * pb → srung32 (S.getD i 0) ≤ srung32 (U.getD i 0)) :
    srung32 (whlV kind pa pb W H S X Y) ≤ srung32 (whlV kind pa pb W H U X Y) := by
  obtain ⟨t1, s1, p1⟩ := pos_taps hX hk
  obtain ⟨t2, s2, p2⟩ := pos_taps hY hk
  obtain ⟨l1, l2, l3, l4⟩ := fin_lohi
  have hin : ∀ (V : List Nat) y, y < pb → ∀ e ∈ tpA kind pa W X, (V.drop (y * pa)).getD e.1.toNat 0 = V.getD (y * pa + e.1.toNat) 0 ∧ y * pa + e.1.toNat < pa * pb := fun V y hy e he => by
    have h := t1.pl e he
    have hi : e.1.toNat < pa := by omega
    refine ⟨by rw [List.getD_eq_getElem?_getD, List.getElem?_drop, ← List.getD_eq_getElem?_getD], ?_⟩
    have : (y + 1) * pa ≤ pb * pa := Nat.mul_le_mul_right _ hy
    rw [Nat.mul_comm pa pb]
    rw [Nat.add_mul, Nat.one_mul] at this
    omega
  have hf : ∀ (V : List Nat), (∀ i, i < pa * pb → rung32 (V.getD i 0) < 2139095040) → ∀ y, y < pb → rung32 (colV (tpA kind pa W X) V pa y) < 2139095040 := fun V hV y hy => by
    unfold colV
    refine (smp_between (lo := 4286578687) (hi := 2139095039) t1 p1 s1 (tpA_abs hX) (fun e he => ?_) ⟨l1, by decide⟩ ⟨l2, by decide⟩ (fun e he => ?_) (fun e he => ?_)).2.2
    · rw [(hin V y hy e he).1]; exact hV _ (hin V y hy e he).2
    · have := fin_srung (hV _ (hin V y hy e he).2)
      rw [(hin V y hy e he).1, l3]; omega
    · have := fin_srung (hV _ (hin V y hy e he).2)
      rw [(hin V y hy e he).1, l4]; omega
  have hg : ∀ e ∈ tpA kind pb H Y, e.1.toNat < pb := fun e he => by have h := t2.pl e he; omega
  have ew : ∀ V, whlV kind pa pb W H V X Y = smpV (tpA kind pb H Y) (tabN pb (colV (tpA kind pa W X) V pa)) := fun V => rfl
  rw [ew, ew]
  refine smp_rises t2 p2 (fun e he => ?_) (fun e he => ?_) (fun e he => ?_)
  · rw [tabN_getD (hg e he)]; exact hf S hS _ (hg e he)
  · rw [tabN_getD (hg e he)]; exact hf U hU _ (hg e he)
  · rw [tabN_getD (hg e he), tabN_getD (hg e he)]
    unfold colV
    refine smp_rises t1 p1 (fun d hd => ?_) (fun d hd => ?_) (fun d hd => ?_)
    · rw [(hin S _ (hg e he) d hd).1]; exact hS _ (hin S _ (hg e he) d hd).2
    · rw [(hin U _ (hg e he) d hd).1]; exact hU _ (hin U _ (hg e he) d hd).2
    · rw [(hin S _ (hg e he) d hd).1, (hin U _ (hg e he) d hd).1]; exact hle _ (hin S _ (hg e he) d hd).2
end Go.Proofs.Ytdbbpmadkhedlaa
/- ScaleSame, plain: a plane's own size; a sample hangs on those that Need tells alone; rows, then columns. -/
namespace Go.Proofs.Ytdbbpmadkhedlaa
open Go.RowKit
set_option linter.unusedVariables false
set_option linter.unusedSimpArgs false

/-- A sample, of those that are no number one. -/
def mdN (s : Nat) : Nat := if nanN s = true then 2143289344 else s
theorem tok_one : TOk 1 [((0 : Int), (65536 : Int))] := ⟨by decide, by decide, fun e he => by simp at he; subst he; decide, fun e he => by simp at he; subst he; decide⟩
theorem over_own {s : Nat} (hs : s < 4294967296) : overW (dotF (prods [65536] [s])) = mdN s := by
  have e : prods [65536] [s] = [prodV 65536 s] := rfl
  rw [e]
  unfold mdN
  cases h : nanN s
  · simp only [Bool.false_eq_true, if_false]
    rw [nanN_rung] at h
    have h := of_decide_eq_false h
    by_cases hi : rung32 s = 2139095040
    · have hsg : s = 2139095040 ∨ s = 4286578688 := by
        have h2 := hi
        unfold rung32 at h2
        omega
      rcases hsg with rfl | rfl
      · decide +kernel
      · decide +kernel
    · have := (smp_const (L := [((0 : Int), (65536 : Int))]) (S := [s]) (x := s) (m := 1) tok_one (by decide) (by decide) (by omega) hs (fun e he => by simp at he; subst he; rfl)).2 (fun e he => by simp at he; subst he; decide)
      have e2 : smpV [((0 : Int), (65536 : Int))] [s] = overW (dotF (prods [65536] [s])) := rfl
      rw [e2, e] at this
      exact this
  · simp only [if_true]
    have hw : wideW s = 9221120237041090560 := by unfold wideW; rw [if_pos h]
    have hp : prodV 65536 s = prodV 65536 2143289344 := by
      unfold prodV
      rw [hw]
      rfl
    rw [hp]
    decide +kernel
/-- One tap alone, of the whole weight. -/
theorem tpA_own {kind : Int} {F i : Nat} (h : tapE kind F F i = 0) : tpA kind F F i = [((i : Int), 65536)] := by
  obtain ⟨hk, hz, -, -, -⟩ := tapE_ok h
  simp only [Int.toNat_natCast] at hz
  have ok := taps_ok hk hz
  obtain ⟨x, hx⟩ := ok.one rfl
  have hs := ok.sum
  have e : tpA kind F F i = tapsL (wlsV kind F F i) := by unfold tpA; rw [if_pos h]; simp only [Int.toNat_natCast]
  rw [e, hx]
  rw [hx] at hs
  have : x = 65536 := by simpa [sndSum] using hs
  rw [this]
theorem smp_own {S : List Nat} {i : Nat} (hb : ∀ i, S.getD i 0 < 4294967296) : smpV [((i : Int), 65536)] S = mdN (S.getD i 0) := by
  have e : smpV [((i : Int), 65536)] S = overW (dotF (prods [65536] [S.getD (i : Int).toNat 0])) := rfl
  rw [e, Int.toNat_natCast]
  exact over_own (hb i)
theorem mdN_lt {s : Nat} (h : s < 4294967296) : mdN s < 4294967296 := by unfold mdN; split <;> omega
theorem mdN_mdN (s : Nat) : mdN (mdN s) = mdN s := by
  unfold mdN
  split
  · rw [if_pos (by decide)]
  · rfl
/-- P10.7. -/
theorem whl_own {kind : Int} {pa pb X Y : Nat} {S : List Nat} (hX : tapE kind pa pa X = 0) (hY : tapE kind pb pb Y = 0) (hY2 : Y < pb) (hb : ∀ i, S.getD i 0 < 4294967296) : whlV kind pa pb pa pb S X Y = mdN (S.getD (Y * pa + X) 0) := by
  unfold whlV
  rw [tpA_own hX, tpA_own hY, smp_own (fun i => ?_)]
  · rw [tabN_getD hY2]
    unfold colV
    rw [smp_own (drop_bd hb _), mdN_mdN, List.getD_eq_getElem?_getD, List.getElem?_drop, ← List.getD_eq_getElem?_getD]
  · by_cases h : i < pb
    · rw [tabN_getD h]; exact smpV_lt _ _
    · rw [List.getD_eq_getElem?_getD, List.getElem?_eq_none (by simp [tabN]; omega)]; decide
/-- What Need tells of one place. -/
def fstN (kind : Int) (F T X : Nat) : Int := fstS ((List.range 1).map fun (k : Nat) => tpA kind F T ((X + k : Nat) : Int)) 1
def endN (kind : Int) (F T X : Nat) : Int := endS ((List.range 1).map fun (k : Nat) => tpA kind F T ((X + k : Nat) : Int)) 1
theorem need_in {kind : Int} {F T X : Nat} (h : tapE kind F T X = 0) : ∀ e ∈ tpA kind F T X, fstN kind F T X ≤ e.1 ∧ e.1 < endN kind F T X := by
  intro e he
  have hl : ((List.range 1).map fun (k : Nat) => tpA kind F T ((X + k : Nat) : Int)) = [tpA kind F T X] := rfl
  have ht : TOk F (tpA kind F T X) := by have := tpA_tok h; rw [Int.toNat_natCast] at this; exact this
  have := span_in (Ls := [tpA kind F T X]) (m := F) (fun L hL => by simp at hL; subst hL; exact ⟨ht, tpA_rise h⟩) 1 (by simp) 0 (tpA kind F T X) (by decide) rfl e he
  unfold fstN endN
  rw [hl]
  exact this
theorem col_congr {A : List (Int × Int)} {S S' : List Nat} {pa v : Nat} (h : ∀ e ∈ A, S.getD (v * pa + e.1.toNat) 0 = S'.getD (v * pa + e.1.toNat) 0) : colV A S pa v = colV A S' pa v := by
  unfold colV
  refine smpV_congr fun e he => ?_
  rw [List.getD_eq_getElem?_getD, List.getElem?_drop, ← List.getD_eq_getElem?_getD, List.getD_eq_getElem?_getD (l := S'.drop _), List.getElem?_drop, ← List.getD_eq_getElem?_getD]
  exact h e he
/-- P10.7: what isn't needed doesn't matter. -/
theorem whl_need {kind : Int} {pa pb W H X Y : Nat} {S S' : List Nat} (hX : tapE kind pa W X = 0) (hY : tapE kind pb H Y = 0)
    (h : ∀ u v : Nat, u < pa → v < pb → fstN kind pa W X ≤ (u : Int) → (u : Int) < endN kind pa W X → fstN kind pb H Y ≤ (v : Int) → (v : Int) < endN kind pb H Y → S.getD (v * pa + u) 0 = S'.getD (v * pa + u) 0) : whlV kind pa pb W H S X Y = whlV kind pa pb W H S' X Y := by
  unfold whlV
  have tX : TOk pa (tpA kind pa W X) := by have := tpA_tok hX; rw [Int.toNat_natCast] at this; exact this
  have tY : TOk pb (tpA kind pb H Y) := by have := tpA_tok hY; rw [Int.toNat_natCast] at this; exact this
  refine smpV_congr fun e he => ?_
  have h1 := tY.pl e he
  have h2 := need_in hY e he
  have hl : e.1.toNat < pb := by omega
  rw [tabN_getD hl, tabN_getD hl]
  refine col_congr fun f hf => ?_
  have h3 := tX.pl f hf
  have h4 := need_in hX f hf
  exact h f.1.toNat e.1.toNat (by omega) hl (by omega) (by omega) (by omega) (by omega)
/-- P10.8: rows, then columns. -/
theorem whl_rows {kind : Int} {pa pb W H X Y : Nat} {S C : List Nat} {R : Nat → List Nat} (hX : tapE kind pa W X = 0) (hY : tapE kind pb H Y = 0) (hl : S.length = pa * pb)
    (hR : ∀ v, v < pb → (R v).getD X 0 = smpV (tpA kind pa W X) ((S.drop (v * pa)).take pa)) (hC : C.length = pb) (hCv : ∀ v, v < pb → C.getD v 0 = (R v).getD X 0) : smpV (tpA kind pb H Y) C = whlV kind pa pb W H S X Y := by
  unfold whlV
  have tX : TOk pa (tpA kind pa W X) := by have := tpA_tok hX; rw [Int.toNat_natCast] at this; exact this
  have tY : TOk pb (tpA kind pb H Y) := by have := tpA_tok hY; rw [Int.toNat_natCast] at this; exact this
  refine smpV_congr fun e he => ?_
  have h1 := tY.pl e he
  have hv : e.1.toNat < pb := by omega
  rw [tabN_getD hv, hCv _ hv, hR _ hv]
  unfold colV
  refine smpV_congr fun f hf => ?_
  have h3 := tX.pl f hf
  rw [List.getD_eq_getElem?_getD, List.getElem?_take, if_pos (by omega), ← List.getD_eq_getElem?_getD]
end Go.Proofs.Ytdbbpmadkhedlaa
