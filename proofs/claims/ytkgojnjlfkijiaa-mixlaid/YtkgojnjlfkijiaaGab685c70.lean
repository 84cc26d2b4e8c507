/- Laid on one another: how far it is off; plain. -/
import Derived.Test.YtkgojnjlfkijiaaG9e89573f
import Derived.Test.YtkgojnjlfkijiaaG355830f6
namespace Go.Proofs.Ytkgojnjlfkijiaa
open Go.RowKit
set_option linter.unusedVariables false

def eT : Nat := 1021
def TZ : Int := ((2 ^ eT : Nat) : Int)
theorem TZ_pos : 0 < TZ := by unfold TZ; have := Nat.two_pow_pos eT; omega
theorem UT : UZ = 9007199254740992 * TZ := by
  unfold UZ TZ
  rw [show eU = 53 + eT from rfl, Nat.pow_add, show (2 : Nat) ^ 53 = 9007199254740992 from rfl, Int.natCast_mul]
  rfl
/-- A word from 0 to 1. -/
theorem unit_facts {x : Nat} (h : x ≤ 1065353216) : rung32 x < 2139095040 ∧ srung32 x = x ∧ sgn32 x = false ∧ 0 ≤ sampleZ x ∧ sampleZ x ≤ UZ := by
  have a := al_of h
  refine ⟨a.fin, srung_small15 (by omega), ?_, a.lo, a.hi⟩
  rw [sgn_hi (by omega)]; exact decide_eq_false (by omega)
theorem sgn_nar {x : Nat} {Z : Int} (h : Wf x Z) : sgn32 (narW x) = sgn64 x := by
  unfold narW
  rw [read_fin64 h.fin]
  rw [toldD_num]
  have h2 : rungOf Ieee.single (mag64 (rung64 x)) (-1074 + (plc64 (rung64 x) : Int)) ≤ 2139095040 := rungOf_le _ _ _
  exact (sgn_word32 _ (by omega)).1
theorem sgn_add {x y : Nat} {X Y : Int} (hx : Wf x X) (hy : Wf y Y) (sx : sgn64 x = false) (sy : sgn64 y = false) (h : 0 ≤ X + Y) (hs : (X + Y).natAbs.log2 ≤ 2000) : sgn64 (opT .add x y) = false := by
  have e := add_fin hx.fin hy.fin
  rw [hx.val, hy.val] at e
  rw [opT_of hA1 e]
  obtain ⟨_, h1, _, _⟩ := wordOf_facts (σ := sg (sgn64 x) (sgn64 y) (X + Y)) hs (fun h => sg_of h)
  rw [h1]
  unfold sg
  split
  · rw [sx]; rfl
  · exact decide_eq_false (by omega)
theorem sgn_sub {x y : Nat} {X Y : Int} (hx : Wf x X) (hy : Wf y Y) (sx : sgn64 x = false) (h : 0 ≤ X - Y) (hs : (X - Y).natAbs.log2 ≤ 2000) : sgn64 (opT .sub x y) = false := by
  have e := sub_fin hx.fin hy.fin
  rw [hx.val, hy.val] at e
  rw [opT_of hA2 e]
  obtain ⟨_, h1, _, _⟩ := wordOf_facts (σ := sg (sgn64 x) (!sgn64 y) (X - Y)) hs (fun h => sg_of h)
  rw [h1]
  unfold sg
  split
  · rw [sx]; rfl
  · exact decide_eq_false (by omega)
theorem sgn_mul {x y : Nat} {X Y P : Int} (hx : Wf x X) (hy : Wf y Y) (sx : sgn64 x = false) (sy : sgn64 y = false) (hP : X * Y = P * UZ) (h : 0 ≤ P) (hs : P.natAbs.log2 ≤ 2000) : sgn64 (opT .mul x y) = false := by
  have e : floatBits .mul .f64 x y = some (Ieee.double.nearest (sgn64 x ^^ sgn64 y) (mag64 (rung64 x) * mag64 (rung64 y)) (-1074 + (plc64 (rung64 x) : Int) + (-1074 + (plc64 (rung64 y) : Int)))) := by
    show ((Ieee.double.read x).product (Ieee.double.read y)).map Ieee.double.write = _
    rw [read_fin64 hx.fin, read_fin64 hy.fin]; rfl
  rw [opT_of hA3 e, nearest_rung, sx, sy]
  have := rungOf_le Ieee.double (mag64 (rung64 x) * mag64 (rung64 y)) (-1074 + (plc64 (rung64 x) : Int) + (-1074 + (plc64 (rung64 y) : Int)))
  have h2 : rungOf Ieee.double (mag64 (rung64 x) * mag64 (rung64 y)) (-1074 + (plc64 (rung64 x) : Int) + (-1074 + (plc64 (rung64 y) : Int))) ≤ 9218868437227405312 := this
  exact (sgn_word64 false (by omega)).1
theorem sgn_wide {a : Nat} (h : rung32 a < 2139095040) : sgn64 (wideW a) = sgn32 a := by
  rw [wideW_of (fin_num h)]
  exact (wide_fin h).2.1
theorem log_U {Z : Int} (h0 : 0 ≤ Z) (h1 : Z ≤ 4 * UZ) : Z.natAbs.log2 ≤ 2000 := by
  refine mlog_lt (j := eU + 3) ?_ (by unfold eU; omega)
  have e : (2 : Nat) ^ (eU + 3) = 8 * 2 ^ eU := by rw [Nat.pow_add, Nat.mul_comm]
  rw [e]
  have e2 : UZ = ((2 ^ eU : Nat) : Int) := rfl
  have := Nat.two_pow_pos eU
  generalize (2 : Nat) ^ eU = V at *
  omega
theorem RN_rest {a : Nat} (h : Al a) : RN (rsZ (sampleZ a)) = rsZ (sampleZ a) := by
  have hw := rest_wf h
  obtain ⟨r0, r1⟩ := rs_bd h.lo h.hi
  have := RN_self (v := rsT (wideW a)) (by rw [hw.val]; exact log_U r0 (by have := UZ_pos; omega))
  rw [hw.val] at this
  exact this
theorem pr_U (R : Int) : prZ UZ R = R := by unfold prZ; exact Int.mul_ediv_cancel_left _ (by have := UZ_pos; omega)
theorem pr_nn {X Y : Int} (h0 : 0 ≤ X) (h1 : 0 ≤ Y) : 0 ≤ prZ X Y := Int.ediv_nonneg (Int.mul_nonneg h0 h1) (Int.le_of_lt UZ_pos)
/-- What Over is worth, of words from 0 to 1. -/
theorem ov_sgn {s sa d : Nat} (hs : s ≤ 1065353216) (ha : sa ≤ 1065353216) (hd : d ≤ 1065353216) (x : Nat) : sgn32 (mxV 1 s sa d x) = false := by
  obtain ⟨fs, _, ss, s0, s1⟩ := unit_facts hs
  obtain ⟨fd, _, sd, d0, d1⟩ := unit_facts hd
  have al := al_of ha
  obtain ⟨r0, r1⟩ := rs_bd al.lo al.hi
  obtain ⟨a1, a2⟩ := ar_wf fd al
  have hU := UZ_pos
  have sR : sgn64 (rsT (wideW sa)) = false := sgn_sub one_wf (wide_wf al.fin) (by decide +kernel) (by have := al.hi; omega) (al_lt al.lo al.hi)
  have hp := pr_nn d0 r0
  have lp : (prZ (sampleZ d) (rsZ (sampleZ sa))).natAbs.log2 ≤ 2000 := mlog_lt (Nat.lt_of_le_of_lt (pr_abs r0 r1) (samp_small fd)) (by unfold eB; omega)
  have sP : sgn64 (opT .mul (wideW d) (rsT (wideW sa))) = false := sgn_mul (wide_wf fd) (rest_wf al) (by rw [sgn_wide fd, sd]) sR (dvd_prod (samp_dvd d (Nat.le_refl _)) (rs_dvd al rfl (e := 1073) rfl rfl) (by unfold eU; omega)) hp lp
  have hRN : 0 ≤ RN (prZ (sampleZ d) (rsZ (sampleZ sa))) := by have := RN_mono hp; rw [RN_zero] at this; exact this
  have sA := sgn_add (wide_wf fs) a1 (by rw [sgn_wide fs, ss]) sP (by omega) (sum_lt (samp_small' fs) a2)
  have w := add_wf (wide_wf fs) a1 (sum_lt (samp_small' fs) a2)
  exact (sgn_nar w).trans sA
theorem ov_key {s sa d : Nat} (hs : s ≤ 1065353216) (ha : sa ≤ 1065353216) (hd : d ≤ 1065353216) (x : Nat) : srung32 (mxV 1 s sa d x) = RS (RN (sampleZ s + RN (prZ (sampleZ d) (rsZ (sampleZ sa))))) := by
  obtain ⟨fs, _, ss, s0, s1⟩ := unit_facts hs
  obtain ⟨fd, _, sd, d0, d1⟩ := unit_facts hd
  have al := al_of ha
  obtain ⟨a1, a2⟩ := ar_wf fd al
  exact (nar_wf (add_wf (wide_wf fs) a1 (sum_lt (samp_small' fs) a2))).1
theorem word_key {v : Nat} (hv : v < 4294967296) (h : sgn32 v = false) : srung32 v = v ∧ v < 2147483648 := by
  rw [sgn_hi hv] at h
  have := of_decide_eq_false h
  exact ⟨srung_small15 (by omega), by omega⟩
/-- Its parts. -/
structure OvP (S A D R P p t Z : Int) : Prop where
  r1 : 9007199254740992 * (R - (UZ - A)) ≤ UZ
  r2 : -UZ ≤ 9007199254740992 * (R - (UZ - A))
  r0 : 0 ≤ R
  rU : R ≤ UZ
  hP : D * R = P * UZ
  p0 : 0 ≤ P
  p1 : 9007199254740992 * (p - P) ≤ P
  p2 : -P ≤ 9007199254740992 * (p - P)
  ts : t = S + p
  z1 : 9007199254740992 * (Z - t) ≤ t
  z2 : -t ≤ 9007199254740992 * (Z - t)
theorem ov_parts {s sa d : Nat} (hs : s ≤ 1065353216) (ha : sa ≤ 1065353216) (hd : d ≤ 1065353216) : ∃ R P p t, OvP (sampleZ s) (sampleZ sa) (sampleZ d) R P p t (RN (sampleZ s + RN (prZ (sampleZ d) (rsZ (sampleZ sa))))) := by
  obtain ⟨fs, _, ss, s0, s1⟩ := unit_facts hs
  obtain ⟨fd, _, sd, d0, d1⟩ := unit_facts hd
  have al := al_of ha
  obtain ⟨r0, r1⟩ := rs_bd al.lo al.hi
  obtain ⟨a1, a2⟩ := ar_wf fd al
  have e1 := RN_err (al_lt al.lo al.hi)
  have hp := pr_nn d0 r0
  have lp : (prZ (sampleZ d) (rsZ (sampleZ sa))).natAbs.log2 ≤ 2000 := mlog_lt (Nat.lt_of_le_of_lt (pr_abs r0 r1) (samp_small fd)) (by unfold eB; omega)
  have e2 := RN_err lp
  have e3 := RN_err (sum_lt (samp_small' fs) a2)
  have hRN : 0 ≤ RN (prZ (sampleZ d) (rsZ (sampleZ sa))) := by have := RN_mono hp; rw [RN_zero] at this; exact this
  have hPr := dvd_prod (samp_dvd d (Nat.le_refl _)) (rs_dvd al rfl (e := 1073) rfl rfl) (by unfold eU; omega)
  change 9007199254740992 * (rsZ (sampleZ sa) - (UZ - sampleZ sa)).natAbs ≤ (UZ - sampleZ sa).natAbs at e1
  have hlo := al.lo
  have hhi := al.hi
  refine ⟨rsZ (sampleZ sa), prZ (sampleZ d) (rsZ (sampleZ sa)), RN (prZ (sampleZ d) (rsZ (sampleZ sa))), sampleZ s + RN (prZ (sampleZ d) (rsZ (sampleZ sa))), ?_⟩
  generalize hRs : rsZ (sampleZ sa) = R at *
  generalize prZ (sampleZ d) R = P at *
  generalize RN P = p at *
  generalize RN (sampleZ s + p) = Z at *
  generalize sampleZ s = S at *
  generalize sampleZ sa = A at *
  exact ⟨by omega, by omega, r0, r1, hPr, hp, by omega, by omega, rfl, by omega, by omega⟩
/-- From 0 to 1 a number is told at most 2^-25 off. -/
theorem samp_half {v : Nat} {Z : Int} (hv : sgn32 v = false) (h : srung32 v = RS Z) (h0 : 0 ≤ Z) (h1 : Z ≤ UZ + 268435456 * TZ) : sampleZ v - Z ≤ 268435456 * TZ ∧ Z - sampleZ v ≤ 268435456 * TZ := by
  obtain ⟨c, hc⟩ : ∃ c, c = 925 := ⟨_, rfl⟩
  obtain ⟨M, rfl⟩ : ∃ M : Nat, Z = (M : Int) := ⟨Z.toNat, by omega⟩
  have hT : TZ = ((2 ^ eT : Nat) : Int) := rfl
  have hUT := UT
  have hTp := Nat.two_pow_pos eT
  have hr : rung32 v = rungOf Ieee.single M (-1074) := by
    unfold srung32 RS at h
    rw [hv, if_neg (by decide), if_neg (by omega)] at h
    rw [Int.natAbs_natCast] at h
    omega
  have hfin : rungOf Ieee.single M (-1074) < 2139095040 := by
    obtain ⟨e, he⟩ : ∃ e, e = 1177 := ⟨_, rfl⟩
    have hg := great_iff (M := M) he
    have hle : rungOf Ieee.single M (-1074) ≤ 2139095040 := rungOf_le _ _ _
    by_cases hh : rungOf Ieee.single M (-1074) = 2139095040
    · rw [decide_eq_true hh] at hg
      have hg := of_decide_eq_true hg
      have e2 : (2 : Nat) ^ e = 2 ^ 156 * 2 ^ eT := by rw [← Nat.pow_add]; congr 1
      have e3 : (2 : Nat) ^ 156 = 91343852333181432387730302044767688728495783936 := by decide +kernel
      rw [e2, e3] at hg
      generalize (2 : Nat) ^ eT = T at *
      omega
    · omega
  obtain ⟨k, hk1, hk2, hk3⟩ : ∃ k : Nat, k ≤ 16777216 ∧ k * (536870912 * 2 ^ eT) ≤ M + 268435456 * 2 ^ eT ∧ M ≤ k * (536870912 * 2 ^ eT) + 268435456 * 2 ^ eT := by
    obtain ⟨T, hTT⟩ : ∃ T, 2 ^ eT = T := ⟨_, rfl⟩
    rw [hTT] at hT hTp ⊢
    obtain ⟨G, hG⟩ : ∃ G, 536870912 * T = G := ⟨_, rfl⟩
    rw [hG]
    have hGp : 0 < G := by omega
    have hd := Nat.div_add_mod (M + 268435456 * T) G
    have hm := Nat.mod_lt (M + 268435456 * T) hGp
    have hMb : M + 268435456 * T ≤ 16777217 * G := by omega
    generalize (M + 268435456 * T) % G = b at *
    generalize (M + 268435456 * T) / G = q at *
    have hcq : q * G = G * q := Nat.mul_comm _ _
    by_cases hq : q ≤ 16777216
    · exact ⟨q, hq, by rw [hcq]; omega, by rw [hcq]; omega⟩
    · have h5 : 16777217 * G ≤ q * G := Nat.mul_le_mul_right _ (by omega)
      exact ⟨16777216, Nat.le_refl _, by omega, by omega⟩
  obtain ⟨r, hrv⟩ : ∃ r, val32 r * 2 ^ c = k * (536870912 * 2 ^ eT) := by
    obtain ⟨g, hg⟩ : ∃ g, g = 125 := ⟨_, rfl⟩
    have e1 : (536870912 : Nat) * 2 ^ eT = 2 ^ g * 2 ^ c := by
      rw [show (536870912 : Nat) = 2 ^ 29 from rfl, ← Nat.pow_add, ← Nat.pow_add]; congr 1; unfold eT; omega
    rw [e1, ← Nat.mul_assoc]
    have hlog : ∀ N : Nat, N < 2 ^ 150 → N.log2 ≤ 276 := fun N hN => by
      by_cases hz : N = 0
      · rw [hz]; decide
      · have := (Nat.log2_lt hz).2 hN; omega
    rcases Nat.lt_or_ge k 16777216 with q | q
    · have hb : k * 2 ^ g < 2 ^ (24 + g) := by rw [Nat.pow_add, show (2 : Nat) ^ 24 = 16777216 from rfl]; exact Nat.mul_lt_mul_of_pos_right q (Nat.two_pow_pos _)
      have hb2 : k * 2 ^ g < 2 ^ 150 := Nat.lt_of_lt_of_le hb (Nat.pow_le_pow_right (by decide) (by omega))
      exact ⟨rungOf Ieee.single (k * 2 ^ g) (-149), by rw [val_exact (g := g) (hlog _ hb2) (Nat.dvd_mul_left _ _) hb]⟩
    · have hk : k = 16777216 := by omega
      have e5 : k * 2 ^ g = 2 ^ (24 + g) := by rw [hk, Nat.pow_add]
      have hb : k * 2 ^ g < 2 ^ (24 + (g + 1)) := by rw [e5]; exact Nat.pow_lt_pow_right (by decide) (by omega)
      have hb2 : k * 2 ^ g < 2 ^ 150 := Nat.lt_of_lt_of_le hb (Nat.pow_le_pow_right (by decide) (by omega))
      exact ⟨rungOf Ieee.single (k * 2 ^ g) (-149), by rw [val_exact (g := g + 1) (hlog _ hb2) (by rw [e5]; exact Nat.pow_dvd_pow 2 (by omega)) hb]⟩
  have hb := bestZ hc hfin r
  rw [hrv] at hb
  have ha := samp_abs (a := v) hc
  have hs0 : 0 ≤ sampleZ v := by
    have := samp_sign (a := v)
    have h9 : 0 ≤ srung32 v := by unfold srung32; rw [hv, if_neg (by decide)]; omega
    omega
  rw [hr] at ha
  rw [← ha] at hb
  rw [hT]
  generalize (2 : Nat) ^ eT = T at *
  generalize sampleZ v = X at *
  omega
end Go.Proofs.Ytkgojnjlfkijiaa
/- Laid on one another, in either way: plain. -/
namespace Go.Proofs.Ytkgojnjlfkijiaa
open Go.RowKit
set_option linter.unusedVariables false

theorem RS_one : RS UZ = 1065353216 := by
  rw [← samp_one, RS_self (by decide)]
  decide
/-- Over of words from 0 to 1 is worth at most 1. -/
theorem ov_top {s sa d : Nat} (h : s ≤ sa) (ha : sa ≤ 1065353216) (hd : d ≤ 1065353216) : RN (sampleZ s + RN (prZ (sampleZ d) (rsZ (sampleZ sa)))) ≤ UZ + 4 * TZ ∧ RS (RN (sampleZ s + RN (prZ (sampleZ d) (rsZ (sampleZ sa))))) ≤ 1065353216 := by
  obtain ⟨fs, ks, _, s0, s1⟩ := unit_facts (show s ≤ 1065353216 by omega)
  obtain ⟨fa, ka, _, a0, a1⟩ := unit_facts ha
  obtain ⟨fd, kd, _, d0, d1⟩ := unit_facts hd
  have al := al_of ha
  obtain ⟨r0, r1⟩ := rs_bd al.lo al.hi
  have hsa : sampleZ s ≤ sampleZ sa := samp_le (by rw [ks, ka]; omega)
  have m1 := RN_mono (pr_mono d1 r0)
  rw [pr_U, RN_rest al] at m1
  have m2 := RN_mono (Int.add_le_add hsa m1)
  have e1 := RN_err (al_lt al.lo al.hi)
  change 9007199254740992 * (rsZ (sampleZ sa) - (UZ - sampleZ sa)).natAbs ≤ (UZ - sampleZ sa).natAbs at e1
  have e2 := RN_err (log_U (Z := sampleZ sa + rsZ (sampleZ sa)) (by omega) (by omega))
  have hU := UT
  have hT := TZ_pos
  have hZ : RN (sampleZ sa + rsZ (sampleZ sa)) ≤ UZ + 4 * TZ := by
    generalize RN (sampleZ sa + rsZ (sampleZ sa)) = Z at *
    generalize rsZ (sampleZ sa) = R at *
    omega
  refine ⟨Int.le_trans m2 hZ, Int.le_trans (RS_mono m2) ?_⟩
  rcases Int.lt_or_le UZ (RN (sampleZ sa + rsZ (sampleZ sa))) with g | g
  · have hn := RS_near (x := 1065353216) (by decide) (Z := RN (sampleZ sa + rsZ (sampleZ sa))) (by rw [samp_one]; generalize RN (sampleZ sa + rsZ (sampleZ sa)) = Z at *; omega)
    rw [hn]
    decide
  · rw [← RS_one]; exact RS_mono g
theorem ov_le {s sa d : Nat} (h : s ≤ sa) (ha : sa ≤ 1065353216) (hd : d ≤ 1065353216) (x : Nat) : mxV 1 s sa d x ≤ 1065353216 := by
  obtain ⟨w1, w2⟩ := word_key (mxV_lt 1 s sa d x) (ov_sgn (show s ≤ 1065353216 by omega) ha hd x)
  have := ov_key (show s ≤ 1065353216 by omega) ha hd x
  have h2 := (ov_top h ha hd).2
  omega
theorem ov_mono {s t sa d e : Nat} (h : s ≤ t) (ht : t ≤ 1065353216) (ha : sa ≤ 1065353216) (hd : d ≤ e) (he : e ≤ 1065353216) (x y : Nat) : mxV 1 s sa d x ≤ mxV 1 t sa e y := by
  obtain ⟨w1, _⟩ := word_key (mxV_lt 1 s sa d x) (ov_sgn (show s ≤ 1065353216 by omega) ha (show d ≤ 1065353216 by omega) x)
  obtain ⟨w2, _⟩ := word_key (mxV_lt 1 t sa e y) (ov_sgn ht ha he y)
  have k1 := ov_key (show s ≤ 1065353216 by omega) ha (show d ≤ 1065353216 by omega) x
  have k2 := ov_key ht ha he y
  obtain ⟨_, ks, _, _, _⟩ := unit_facts (show s ≤ 1065353216 by omega)
  obtain ⟨_, kt, _, _, _⟩ := unit_facts ht
  obtain ⟨_, kd, _, _, _⟩ := unit_facts (show d ≤ 1065353216 by omega)
  obtain ⟨_, ke, _, _, _⟩ := unit_facts he
  have al := al_of ha
  obtain ⟨r0, r1⟩ := rs_bd al.lo al.hi
  have m := RS_mono (RN_mono (Int.add_le_add (samp_le (a := s) (b := t) (by rw [ks, kt]; omega)) (RN_mono (pr_mono (samp_le (a := d) (b := e) (by rw [kd, ke]; omega)) r0))))
  rw [← k1, ← k2] at m
  omega
theorem scale_bd {x b : Int} (h0 : x ≤ b) (h1 : -b ≤ x) : UZ * x ≤ UZ * b ∧ -(UZ * b) ≤ UZ * x := by
  have hU := UZ_pos
  have a := Int.mul_le_mul_of_nonneg_left h0 (Int.le_of_lt hU)
  have c := Int.mul_le_mul_of_nonneg_left h1 (Int.le_of_lt hU)
  rw [Int.mul_neg] at c
  exact ⟨a, c⟩
theorem part_bd {D x b : Int} (d0 : 0 ≤ D) (d1 : D ≤ UZ) (h0 : x ≤ b) (h1 : -b ≤ x) (hb : 0 ≤ b) : D * x ≤ UZ * b ∧ -(UZ * b) ≤ D * x := by
  have a := Int.mul_le_mul_of_nonneg_left h0 d0
  have c := Int.mul_le_mul_of_nonneg_left h1 d0
  have e := Int.mul_le_mul_of_nonneg_right d1 hb
  rw [Int.mul_neg] at c
  omega
/-- How far Over is off. -/
theorem ov_err {s sa d : Nat} (h : s ≤ sa) (ha : sa ≤ 1065353216) (hd : d ≤ 1065353216) (x : Nat) :
    ∃ ε : Int, UZ * sampleZ (mxV 1 s sa d x) = UZ * sampleZ s + sampleZ d * (UZ - sampleZ sa) + ε ∧ ε ≤ UZ * (268435461 * TZ) ∧ -(UZ * (268435461 * TZ)) ≤ ε := by
  have hs : s ≤ 1065353216 := by omega
  obtain ⟨R, P, p, t, o⟩ := ov_parts hs ha hd
  obtain ⟨_, _, _, s0, s1⟩ := unit_facts hs
  obtain ⟨_, _, _, d0, d1⟩ := unit_facts hd
  have ht := (ov_top h ha hd).1
  have hk := ov_key hs ha hd x
  have hsg := ov_sgn hs ha hd x
  have hUT := UT
  have hT := TZ_pos
  have hU := UZ_pos
  have al := al_of ha
  obtain ⟨r0, r1⟩ := rs_bd al.lo al.hi
  have z0 : 0 ≤ RN (sampleZ s + RN (prZ (sampleZ d) (rsZ (sampleZ sa)))) := by
    have q1 := RN_mono (pr_nn d0 r0)
    rw [RN_zero] at q1
    have q2 := RN_mono (show (0 : Int) ≤ sampleZ s + RN (prZ (sampleZ d) (rsZ (sampleZ sa))) by omega)
    rw [RN_zero] at q2
    exact q2
  obtain ⟨x1, x2⟩ := samp_half hsg hk z0 (by omega)
  generalize mxV 1 s sa d x = v at *
  generalize RN (sampleZ s + RN (prZ (sampleZ d) (rsZ (sampleZ sa)))) = Z at *
  obtain ⟨e1, e2, e3, e4, e5, e6, e7, e8, e9, e10, e11⟩ := o
  generalize sampleZ v = X at *
  generalize sampleZ s = S at *
  generalize sampleZ sa = A at *
  generalize sampleZ d = D at *
  have hPD : P ≤ D := by
    have := Int.mul_le_mul_of_nonneg_left e4 d0
    rw [e5] at this
    exact Int.le_of_mul_le_mul_right this hU
  have b1 := part_bd (x := R - (UZ - A)) (b := TZ) d0 d1 (by omega) (by omega) (by omega)
  have b2 := scale_bd (x := p - P) (b := TZ) (by omega) (by omega)
  have b3 := scale_bd (x := Z - t) (b := 3 * TZ) (by omega) (by omega)
  have b4 := scale_bd (x := X - Z) (b := 268435456 * TZ) (by omega) (by omega)
  refine ⟨UZ * X - (UZ * S + D * (UZ - A)), by omega, ?_, ?_⟩
  all_goals (
    have id : UZ * X - (UZ * S + D * (UZ - A)) = UZ * (X - Z) + UZ * (Z - t) + UZ * (p - P) + D * (R - (UZ - A)) := by
      rw [e9]; grind
    rw [id]
    have q1 : UZ * (268435461 * TZ) = 268435461 * (UZ * TZ) := by rw [Int.mul_left_comm]
    have q2 : UZ * (3 * TZ) = 3 * (UZ * TZ) := by rw [Int.mul_left_comm]
    have q3 : UZ * (268435456 * TZ) = 268435456 * (UZ * TZ) := by rw [Int.mul_left_comm]
    rw [q1]
    rw [q2] at b3
    rw [q3] at b4
    generalize UZ * TZ = K at *
    generalize UZ * (X - Z) = y1 at *
    generalize UZ * (Z - t) = y2 at *
    generalize UZ * (p - P) = y3 at *
    generalize D * (R - (UZ - A)) = y4 at *
    omega)
/-- Three laid on one another: both ways are at most 3 times 2^-24 apart. -/
theorem laid_near {a aa b ba c ca : Nat} (ha : a ≤ aa) (hb : b ≤ ba) (hc : c ≤ ca) (haa : aa ≤ 1065353216) (hba : ba ≤ 1065353216) (hca : ca ≤ 1065353216) (x1 x2 x3 x4 x5 : Nat) :
    (sampleZ (mxV 1 (mxV 1 a aa b x1) (mxV 1 aa aa ba x2) c x3) - sampleZ (mxV 1 a aa (mxV 1 b ba c x4) x5)).natAbs ≤ 3 * 2 ^ 1050 := by
  have l1 := ov_mono (s := a) (t := aa) (sa := aa) (d := b) (e := ba) ha haa haa hb hba x1 x2
  have l2 := ov_le (s := aa) (sa := aa) (d := ba) (Nat.le_refl _) haa hba x2
  have l4 := ov_le (s := b) (sa := ba) (d := c) hb hba (show c ≤ 1065353216 by omega) x4
  obtain ⟨ε1, f1, g1, h1⟩ := ov_err (s := a) (sa := aa) (d := b) ha haa (show b ≤ 1065353216 by omega) x1
  obtain ⟨ε2, f2, g2, h2⟩ := ov_err (s := aa) (sa := aa) (d := ba) (Nat.le_refl _) haa hba x2
  obtain ⟨ε3, f3, g3, h3⟩ := ov_err (s := mxV 1 a aa b x1) (sa := mxV 1 aa aa ba x2) (d := c) l1 l2 (show c ≤ 1065353216 by omega) x3
  obtain ⟨ε4, f4, g4, h4⟩ := ov_err (s := b) (sa := ba) (d := c) hb hba (show c ≤ 1065353216 by omega) x4
  obtain ⟨ε5, f5, g5, h5⟩ := ov_err (s := a) (sa := aa) (d := mxV 1 b ba c x4) ha haa l4 x5
  obtain ⟨_, _, _, c0, c1⟩ := unit_facts (show c ≤ 1065353216 by omega)
  obtain ⟨_, _, _, a0, a1⟩ := unit_facts haa
  generalize mxV 1 (mxV 1 a aa b x1) (mxV 1 aa aa ba x2) c x3 = L at *
  generalize mxV 1 a aa (mxV 1 b ba c x4) x5 = R at *
  generalize mxV 1 a aa b x1 = p1 at *
  generalize mxV 1 aa aa ba x2 = p2 at *
  generalize mxV 1 b ba c x4 = p4 at *
  generalize sampleZ L = l at *
  generalize sampleZ R = r at *
  generalize sampleZ p1 = q1 at *
  generalize sampleZ p2 = q2 at *
  generalize sampleZ p4 = q4 at *
  generalize sampleZ a = A at *
  generalize sampleZ aa = AA at *
  generalize sampleZ b = B at *
  generalize sampleZ ba = BA at *
  generalize sampleZ c = C at *
  have hU := UZ_pos
  have hT := TZ_pos
  have id : UZ * (UZ * (l - r)) = UZ * ε1 - C * ε2 + UZ * ε3 - (UZ - AA) * ε4 - UZ * ε5 := by
    have k1 : UZ * (UZ * l) = UZ * (UZ * q1) + UZ * (C * (UZ - q2)) + UZ * ε3 := by rw [f3]; grind
    have k2 : UZ * (UZ * r) = UZ * (UZ * A) + UZ * (q4 * (UZ - AA)) + UZ * ε5 := by rw [f5]; grind
    have k3 : UZ * (C * (UZ - q2)) = C * (UZ * UZ - UZ * q2) := by grind
    have k4 : UZ * (q4 * (UZ - AA)) = (UZ * q4) * (UZ - AA) := by grind
    rw [f2] at k3
    rw [f4] at k4
    rw [f1] at k1
    rw [k3] at k1
    rw [k4] at k2
    rw [Int.mul_sub, Int.mul_sub, k1, k2]
    grind
  have hb0 : (0 : Int) ≤ UZ * (268435461 * TZ) := Int.mul_nonneg (by omega) (by omega)
  have s1 := scale_bd g1 h1
  have s2 := part_bd c0 c1 g2 h2 hb0
  have s3 := scale_bd g3 h3
  have s4 := part_bd (D := UZ - AA) (by omega) (by omega) g4 h4 hb0
  have s5 := scale_bd g5 h5
  have hup : UZ * (UZ * (l - r)) ≤ UZ * (UZ * (1342177305 * TZ)) ∧ -(UZ * (UZ * (1342177305 * TZ))) ≤ UZ * (UZ * (l - r)) := by
    have m1 : UZ * (UZ * (1342177305 * TZ)) = 5 * (UZ * (UZ * (268435461 * TZ))) := by grind
    rw [m1, id]
    generalize UZ * (UZ * (268435461 * TZ)) = K at *
    generalize UZ * ε1 = y1 at *
    generalize C * ε2 = y2 at *
    generalize UZ * ε3 = y3 at *
    generalize (UZ - AA) * ε4 = y4 at *
    generalize UZ * ε5 = y5 at *
    omega
  have u1 := Int.le_of_mul_le_mul_left (Int.le_of_mul_le_mul_left hup.1 hU) hU
  have u2 : -(1342177305 * TZ) ≤ l - r := by
    have := hup.2
    rw [← Int.mul_neg, ← Int.mul_neg] at this
    exact Int.le_of_mul_le_mul_left (Int.le_of_mul_le_mul_left this hU) hU
  have hTe : TZ = ((2 ^ eT : Nat) : Int) := rfl
  have e6 : (2 : Nat) ^ 1050 = 536870912 * 2 ^ eT := by
    rw [show (536870912 : Nat) = 2 ^ 29 from rfl, ← Nat.pow_add]; congr 1
  rw [e6]
  generalize (2 : Nat) ^ eT = T at *
  omega
end Go.Proofs.Ytkgojnjlfkijiaa
/- Laid: are two samples at most 3 times 2^-24 apart? -/
namespace Go.Proofs.Ytkgojnjlfkijiaa
open Go.RowKit
set_option linter.unusedVariables false
set_option linter.unusedSimpArgs false

theorem num_opp15 {w : World} {k : Int} {s : Bool} {p : Option Addr} {L C : Nat} {e : Int} {m : Bool} {X : RNum} (h : NumAt w (.agg #[.int .i64 k, .bool s, .slice p L C, .int .i64 e, .bool m]) X) : NumAt w (.agg #[.int .i64 k, .bool (!s), .slice p L C, .int .i64 e, .bool m]) (oppR X) := by
  cases X using RNum.rec3 with
  | nan =>
    obtain ⟨b, e', m', h⟩ := h
    simp only [Value.agg.injEq, Array.mk.injEq, List.cons.injEq, Value.int.injEq, Value.bool.injEq, Value.slice.injEq] at h
    obtain ⟨⟨_, rfl⟩, rfl, ⟨rfl, rfl, rfl⟩, ⟨_, rfl⟩, rfl, _⟩ := h
    exact ⟨_, _, _, rfl⟩
  | inf t =>
    obtain ⟨e', m', h⟩ := h
    simp only [Value.agg.injEq, Array.mk.injEq, List.cons.injEq, Value.int.injEq, Value.bool.injEq, Value.slice.injEq] at h
    obtain ⟨⟨_, rfl⟩, rfl, ⟨rfl, rfl, rfl⟩, ⟨_, rfl⟩, rfl, _⟩ := h
    exact ⟨_, _, rfl⟩
  | fin t n e' m' =>
    obtain ⟨nv, h, hn⟩ := h
    simp only [Value.agg.injEq, Array.mk.injEq, List.cons.injEq, Value.int.injEq, Value.bool.injEq] at h
    obtain ⟨⟨_, rfl⟩, rfl, rfl, ⟨_, rfl⟩, rfl, _⟩ := h
    exact ⟨_, rfl, hn⟩
theorem single_num15 {a : Nat} (h : rung32 a < 2139095040) : numOf Ieee.single a = .fin (sgn32 a) (mag32 (rung32 a)) (-149 + (plc32 (rung32 a) : Int)) false := by rw [numOf_datum, read_fin32 h]; rfl
theorem single_small15 (a : Nat) : small (numOf Ieee.single a) := by
  rw [numOf_datum]
  rcases Nat.lt_trichotomy (rung32 a) 2139095040 with h | h | h
  · rw [read_fin32 h]
    have hp := plc_le32 h
    have hm := blen_le (k := 24) (show mag32 (rung32 a) < 2 ^ 24 from mag_lt32 _)
    exact ⟨by omega, by omega, by omega⟩
  · rw [read_inf32 h]; exact trivial
  · rw [read_nan32 h]; exact trivial
theorem small_opp15 {x : RNum} (h : small x) : small (oppR x) := by cases x using RNum.rec3 <;> exact h
theorem cmpV_le15 (x y : Nat) : decide (cmpV x y ≤ 0) = decide (x ≤ y) := by
  rw [decide_eq_decide]
  unfold cmpV
  split
  · simp; omega
  · split
    · simp; omega
    · simp; omega
theorem apart_cases (a b : Nat) (ha : a < 4294967296) (hb : b < 4294967296) (fa : rung32 a < 2139095040) (fb : rung32 b < 2139095040) :
    ∃ σ N, plusR (.fin (sgn32 a) (mag32 (rung32 a)) (-149 + (plc32 (rung32 a) : Int)) false) (.fin (!sgn32 b) (mag32 (rung32 b)) (-149 + (plc32 (rung32 b) : Int)) false) = .fin σ N (min (-149 + (plc32 (rung32 a) : Int)) (-149 + (plc32 (rung32 b) : Int))) false ∧ zm N (min (-149 + (plc32 (rung32 a) : Int)) (-149 + (plc32 (rung32 b) : Int))) = (sampleZ a - sampleZ b).natAbs ∧ blen N ≤ 2000 := by
  obtain ⟨σ, N, pe, pz, _⟩ := plus_zs (sgn32 a) (!sgn32 b) (mag32 (rung32 a)) (mag32 (rung32 b)) (-149 + (plc32 (rung32 a) : Int)) (-149 + (plc32 (rung32 b) : Int)) false false (by omega) (by omega)
  have ez : zm N (min (-149 + (plc32 (rung32 a) : Int)) (-149 + (plc32 (rung32 b) : Int))) = (sampleZ a - sampleZ b).natAbs := by
    rw [pz, signed_neg]
    unfold sampleZ
    rw [show (-149 + (plc32 (rung32 a) : Int) + 1074).toNat = plc32 (rung32 a) + 925 by omega, show (-149 + (plc32 (rung32 b) : Int) + 1074).toNat = plc32 (rung32 b) + 925 by omega, Int.sub_eq_add_neg]
  refine ⟨σ, N, pe, ez, ?_⟩
  refine Nat.le_trans (blen_le (k := eB + 1) ?_) (by unfold eB; omega)
  have h1 := samp_small fa
  have h2 := samp_small fb
  have h3 : N ≤ zm N (min (-149 + (plc32 (rung32 a) : Int)) (-149 + (plc32 (rung32 b) : Int))) := by unfold zm; exact Nat.le_mul_of_pos_right _ (Nat.two_pow_pos _)
  rw [ez] at h3
  rw [Nat.pow_succ]
  generalize 2 ^ eB = J at *
  omega
theorem zm_three : zm 3 (-24) = 3 * 2 ^ 1050 := by
  unfold zm
  rw [show ((-24 : Int) + 1074).toNat = 1050 from rfl]
set_option maxHeartbeats 4000000 in
set_option maxRecDepth 100000 in
theorem apart_any (a b : Nat) (ha : a < 4294967296) (hb : b < 4294967296) (fa : rung32 a < 2139095040) (fb : rung32 b < 2139095040) (w : World) :
    Calls Try.prog 11 #[.int .u32 (a : Int), .int .u32 (b : Int)] w fun x w' => x = .returned (.bool (decide ((sampleZ a - sampleZ b).natAbs ≤ 3 * 2 ^ 1050))) ∧ Q w w' := by
  have ew1 : IntKind.u64.wrap (a : Int) = a := by rw [IntKind.wrap_u64]; omega
  have ew2 : IntKind.u64.wrap (b : Int) = b := by rw [IntKind.wrap_u64]; omega
  obtain ⟨σ, N, pe, pz, pb⟩ := apart_cases a b ha hb fa fb
  have HF : Hid (rung32 a < 2139095040 ∧ rung32 b < 2139095040) := ⟨fa, fb⟩
  have hEa := plc_le32 fa
  have hEb := plc_le32 fb
  obtain ⟨E, hE⟩ : ∃ E, min (-149 + (plc32 (rung32 a) : Int)) (-149 + (plc32 (rung32 b) : Int)) = E := ⟨_, rfl⟩
  rw [hE] at pe pz
  have E0 : -149 ≤ E := by omega
  have E1 : E ≤ 104 := by omega
  have HR : Hid (decide ((sampleZ a - sampleZ b).natAbs ≤ 3 * 2 ^ 1050) = decide (N * 2 ^ (E - min E (-24)).toNat ≤ 3 * 2 ^ (-24 - min E (-24)).toNat)) := by
    show _ = _
    rw [zm_le (by omega) (by omega), pz, zm_three]
  obtain ⟨RB, hRB⟩ : ∃ RB, decide ((sampleZ a - sampleZ b).natAbs ≤ 3 * 2 ^ 1050) = RB := ⟨_, rfl⟩
  rw [hRB] at HR ⊢
  have HPE : Hid (plusR (.fin (sgn32 a) (mag32 (rung32 a)) (-149 + (plc32 (rung32 a) : Int)) false) (.fin (!sgn32 b) (mag32 (rung32 b)) (-149 + (plc32 (rung32 b) : Int)) false) = .fin σ N E false) := pe
  have HPB : Hid (blen N ≤ 2000) := pb
  clear fa fb hEa hEb hE pe pz pb hRB
  go_enter Try.func11, Try.ntmps11
  go_wp2_with fail
  refine (f32_any _).mono ?_
  rintro e' w1 ⟨rfl, q1⟩
  have HQ : Hid (Q w w1) := q1
  clear q1
  go_wp2_with fail
  refine (of32_any a _ ha).mono ?_
  rintro e' w2 ⟨v, rfl, hv1, q2⟩
  obtain ⟨k1, s1, p1, L1, C1, e1, m1, rfl⟩ := hv1.made
  have HV1 : Hid _ := hv1
  have HQ : Hid (Q w w2) := HQ.out.trans q2
  clear q2 hv1
  go_wp2_with fail
  refine (f32_any _).mono ?_
  rintro e' w3 ⟨rfl, q3⟩
  have HQ : Hid (Q w w3) := HQ.out.trans q3
  replace HV1 : Hid _ := q3.num HV1.out
  clear q3
  go_wp2_with fail
  refine (of32_any b _ hb).mono ?_
  rintro e' w4 ⟨v, rfl, hv2, q4⟩
  obtain ⟨k2, s2, p2, L2, C2, e2, m2, rfl⟩ := hv2.made
  have HV2 : Hid _ := num_opp15 hv2
  have HQ : Hid (Q w w4) := HQ.out.trans q4
  replace HV1 : Hid _ := q4.num HV1.out
  clear q4 hv2
  go_wp2_with fail
  replace HV1 : Hid (NumAt ((w4.alloc (.cells #[.int .i64 k1, .bool s1, .slice p1 L1 C1, .int .i64 e1, .bool m1] 52)).alloc (.cells #[.int .i64 k2, .bool (!s2), .slice p2 L2 C2, .int .i64 e2, .bool m2] 52)) _ _) := (((Q.refl w4).cells _ _).cells _ _).num HV1.out
  replace HV2 : Hid (NumAt ((w4.alloc (.cells #[.int .i64 k1, .bool s1, .slice p1 L1 C1, .int .i64 e1, .bool m1] 52)).alloc (.cells #[.int .i64 k2, .bool (!s2), .slice p2 L2 C2, .int .i64 e2, .bool m2] 52)) _ _) := (((Q.refl w4).cells _ _).cells _ _).num HV2.out
  have HQ : Hid (Q w ((w4.alloc (.cells #[.int .i64 k1, .bool s1, .slice p1 L1 C1, .int .i64 e1, .bool m1] 52)).alloc (.cells #[.int .i64 k2, .bool (!s2), .slice p2 L2 C2, .int .i64 e2, .bool m2] 52))) := (HQ.out.cells _ _).cells _ _
  generalize (w4.alloc (.cells #[.int .i64 k1, .bool s1, .slice p1 L1 C1, .int .i64 e1, .bool m1] 52)).alloc (.cells #[.int .i64 k2, .bool (!s2), .slice p2 L2 C2, .int .i64 e2, .bool m2] 52) = wy at HQ HV1 HV2 ⊢
  refine (plusnum_any _ _ _ _ _ HV1.out HV2.out (single_small15 a) (small_opp15 (single_small15 b))).mono ?_
  rintro e' w5 ⟨v, rfl, hv3, q5⟩
  have HQ : Hid (Q w w5) := HQ.out.trans q5
  rw [single_num15 HF.out.1, single_num15 HF.out.2] at hv3
  have hv3 : NumAt w5 v (plusR (.fin (sgn32 a) (mag32 (rung32 a)) (-149 + (plc32 (rung32 a) : Int)) false) (.fin (!sgn32 b) (mag32 (rung32 b)) (-149 + (plc32 (rung32 b) : Int)) false)) := hv3
  rw [HPE.out] at hv3
  obtain ⟨nv, rfl, p, bb, L, C, rfl, hI⟩ := hv3
  have HNV : Hid (NatAt w5 (.slice p L C) N) := ⟨p, bb, L, C, rfl, hI⟩
  clear hI HV1 HV2 q5
  obtain ⟨F, hF⟩ : ∃ F, min E (-24) = F := ⟨_, rfl⟩
  rw [hF] at HR
  obtain ⟨da, hda⟩ : ∃ da : Nat, da = (E - F).toNat := ⟨_, rfl⟩
  obtain ⟨db, hdb⟩ : ∃ db : Nat, db = (-24 - F).toNat := ⟨_, rfl⟩
  rw [← hda, ← hdb, ← cmpV_le15] at HR
  have da1 : (da : Int) = E - F := by omega
  have db1 : (db : Int) = -24 - F := by omega
  have HCA : Hid (N * 2 ^ da < cap) := lt_cap (shifted_lt (k := 6000) N da (by have := HPB.out; omega)) (by decide)
  have HCB : Hid (3 * 2 ^ db < cap) := lt_cap (shifted_lt (k := 6000) 3 db (by have := blen_le (n := 3) (k := 2) (by decide); omega)) (by decide)
  have HU : Hid (∀ x, Q w5 x → Calls Try.prog 27 #[.slice p L C, .int .i64 (da : Nat)] x fun e w' => ∃ v, e = .returned v ∧ NatAt w' v (N * 2 ^ da) ∧ Q x w') := fun x hx => up_any _ N da x (hx.nat HNV.out) HCA.out
  have HU2 : Hid (∀ x v, NatAt x v 3 → Calls Try.prog 27 #[v, .int .i64 (db : Nat)] x fun e w' => ∃ v, e = .returned v ∧ NatAt w' v (3 * 2 ^ db) ∧ Q x w') := fun x v hv => up_any _ 3 db x hv HCB.out
  rw [da1] at HU
  rw [db1] at HU2
  have HT : Hid (∀ x, Calls Try.prog 28 #[.int .u64 3] x fun e w' => ∃ v, e = .returned v ∧ NatAt w' v 3 ∧ Q x w') := fun x => natof_nat 3 x (by decide)
  clear HCA HCB hda hdb da1 db1 HPE HPB HF
  by_cases hc : E ≤ -24
  · have hFE : F = E := by omega
    subst hFE
    rw [Int.sub_self] at HU
    clear hF
    have hm : (if -24 < F then (-24 : Int) else F) = F := by rw [if_neg (by omega)]
    go_wp2_with fail
    refine (HU.out _ ((Q.refl w5).cells _ _)).mono ?_
    rintro e' w6 ⟨v6, rfl, n6, q6⟩
    have HQ : Hid (Q w w6) := (HQ.out.cells _ _).trans q6
    have HN6 : Hid (NatAt w6 v6 (N * 2 ^ da)) := n6
    clear n6 q6
    go_wp2_with fail
    refine (HT.out _).mono ?_
    rintro e' w7 ⟨v7, rfl, n7, q7⟩
    have HQ : Hid (Q w w7) := HQ.out.trans q7
    have HN6 : Hid (NatAt w7 v6 (N * 2 ^ da)) := q7.nat HN6.out
    have HN7 : Hid (NatAt w7 v7 3) := n7
    clear n7 q7
    go_wp2_with fail
    refine (HU2.out _ _ HN7.out).mono ?_
    rintro e' w8 ⟨v8, rfl, n8, q8⟩
    have HQ : Hid (Q w w8) := HQ.out.trans q8
    have HN6 : Hid (NatAt w8 v6 (N * 2 ^ da)) := q8.nat HN6.out
    have HN8 : Hid (NatAt w8 v8 (3 * 2 ^ db)) := n8
    clear n8 q8
    go_wp2_with fail
    refine (compare_any _ _ _ _ _ HN6.out HN8.out).mono ?_
    rintro e' w9 ⟨rfl, q9⟩
    have HQ : Hid (Q w w9) := HQ.out.trans q9
    clear q9
    obtain ⟨cv, hcv⟩ : ∃ cv, cmpV (N * 2 ^ da) (3 * 2 ^ db) = cv := ⟨_, rfl⟩
    rw [hcv] at HR ⊢
    clear hcv
    go_wp2_with fail
    go_ret
    exact ⟨by rw [HR.out]; rfl, HQ.out⟩
  · have hFE : F = -24 := by omega
    subst hFE
    rw [show E - -24 = E + 24 by omega] at HU
    rw [Int.sub_self] at HU2
    have hm : (if -24 < E then (-24 : Int) else E) = -24 := by rw [if_pos (by omega)]
    go_wp2_with fail
    refine (HU.out _ ((Q.refl w5).cells _ _)).mono ?_
    rintro e' w6 ⟨v6, rfl, n6, q6⟩
    have HQ : Hid (Q w w6) := (HQ.out.cells _ _).trans q6
    have HN6 : Hid (NatAt w6 v6 (N * 2 ^ da)) := n6
    clear n6 q6
    go_wp2_with fail
    refine (HT.out _).mono ?_
    rintro e' w7 ⟨v7, rfl, n7, q7⟩
    have HQ : Hid (Q w w7) := HQ.out.trans q7
    have HN6 : Hid (NatAt w7 v6 (N * 2 ^ da)) := q7.nat HN6.out
    have HN7 : Hid (NatAt w7 v7 3) := n7
    clear n7 q7
    go_wp2_with fail
    refine (HU2.out _ _ HN7.out).mono ?_
    rintro e' w8 ⟨v8, rfl, n8, q8⟩
    have HQ : Hid (Q w w8) := HQ.out.trans q8
    have HN6 : Hid (NatAt w8 v6 (N * 2 ^ da)) := q8.nat HN6.out
    have HN8 : Hid (NatAt w8 v8 (3 * 2 ^ db)) := n8
    clear n8 q8
    go_wp2_with fail
    refine (compare_any _ _ _ _ _ HN6.out HN8.out).mono ?_
    rintro e' w9 ⟨rfl, q9⟩
    have HQ : Hid (Q w w9) := HQ.out.trans q9
    clear q9
    obtain ⟨cv, hcv⟩ : ∃ cv, cmpV (N * 2 ^ da) (3 * 2 ^ db) = cv := ⟨_, rfl⟩
    rw [hcv] at HR ⊢
    clear hcv
    go_wp2_with fail
    go_ret
    exact ⟨by rw [HR.out]; rfl, HQ.out⟩
end Go.Proofs.Ytkgojnjlfkijiaa
/- MixLaid: the walk. (gen_mlaid.py) -/
namespace Go.Proofs.Ytkgojnjlfkijiaa
open Go.RowKit
set_option linter.unusedVariables false
set_option linter.unusedSimpArgs false

theorem hidm {p : Prop} (h : p) : Hid p := h
theorem min_int (a b : Nat) : (if (b : Int) < (a : Int) then (b : Int) else (a : Int)) = ((min a b : Nat) : Int) := by split <;> omega
set_option maxHeartbeats 8000000 in
set_option maxRecDepth 100000 in
theorem mlaid_walk (a aa b ba c ca : Nat) (ha : a < 4294967296) (haa : aa < 4294967296) (hb : b < 4294967296) (hba : ba < 4294967296) (hc : c < 4294967296) (hca : ca < 4294967296) (w : World) :
    Calls Try.prog 5 #[.int .u32 (a : Int), .int .u32 (aa : Int), .int .u32 (b : Int), .int .u32 (ba : Int), .int .u32 (c : Int), .int .u32 (ca : Int)] w fun e w' => e = .returned (.bool true) ∧ Q w w' := by
  have Ua : ∀ x, Calls Try.prog 10 #[.int .u32 (a : Int)] x fun e w' => e = .returned (.int .u32 (unitN a : Nat)) ∧ w' = x := fun x => unit15_any a ha x
  have La := unitN_le a
  have Uaa : ∀ x, Calls Try.prog 10 #[.int .u32 (aa : Int)] x fun e w' => e = .returned (.int .u32 (unitN aa : Nat)) ∧ w' = x := fun x => unit15_any aa haa x
  have Laa := unitN_le aa
  have Ub : ∀ x, Calls Try.prog 10 #[.int .u32 (b : Int)] x fun e w' => e = .returned (.int .u32 (unitN b : Nat)) ∧ w' = x := fun x => unit15_any b hb x
  have Lb := unitN_le b
  have Uba : ∀ x, Calls Try.prog 10 #[.int .u32 (ba : Int)] x fun e w' => e = .returned (.int .u32 (unitN ba : Nat)) ∧ w' = x := fun x => unit15_any ba hba x
  have Lba := unitN_le ba
  have Uc : ∀ x, Calls Try.prog 10 #[.int .u32 (c : Int)] x fun e w' => e = .returned (.int .u32 (unitN c : Nat)) ∧ w' = x := fun x => unit15_any c hc x
  have Lc := unitN_le c
  have Uca : ∀ x, Calls Try.prog 10 #[.int .u32 (ca : Int)] x fun e w' => e = .returned (.int .u32 (unitN ca : Nat)) ∧ w' = x := fun x => unit15_any ca hca x
  have Lca := unitN_le ca
  have Ma := min_int (unitN a) (unitN aa)
  have Mb := min_int (unitN b) (unitN ba)
  have Mc := min_int (unitN c) (unitN ca)
  have ha' : min (unitN a) (unitN aa) ≤ unitN aa := Nat.min_le_right _ _
  have hb' : min (unitN b) (unitN ba) ≤ unitN ba := Nat.min_le_right _ _
  have hc' : min (unitN c) (unitN ca) ≤ unitN ca := Nat.min_le_right _ _
  generalize min (unitN a) (unitN aa) = A at *
  generalize min (unitN b) (unitN ba) = B at *
  generalize min (unitN c) (unitN ca) = C at *
  generalize unitN aa = AA at *
  generalize unitN ba = BA at *
  generalize unitN ca = CA at *
  generalize unitN a = A0 at *
  generalize unitN b = B0 at *
  generalize unitN c = C0 at *
  have lA : A < 4294967296 := by omega
  have lB : B < 4294967296 := by omega
  have lC : C < 4294967296 := by omega
  have lAA : AA < 4294967296 := by omega
  have lBA : BA < 4294967296 := by omega
  have lCA : CA < 4294967296 := by omega
  have Wab : ∀ x, Calls Try.prog 9 #[.int .i64 1, .int .u32 (A : Int), .int .u32 (AA : Int), .int .u32 (B : Int), .int .u32 (BA : Int)] x fun e w' => e = .returned (.int .u32 (mxV 1 A AA B BA : Nat)) ∧ Q x w' := fun x => way15_any 1 A AA B BA (by decide) (by decide) lA lAA lB lBA x
  have Waab : ∀ x, Calls Try.prog 9 #[.int .i64 1, .int .u32 (AA : Int), .int .u32 (AA : Int), .int .u32 (BA : Int), .int .u32 (BA : Int)] x fun e w' => e = .returned (.int .u32 (mxV 1 AA AA BA BA : Nat)) ∧ Q x w' := fun x => way15_any 1 AA AA BA BA (by decide) (by decide) lAA lAA lBA lBA x
  have Wbc : ∀ x, Calls Try.prog 9 #[.int .i64 1, .int .u32 (B : Int), .int .u32 (BA : Int), .int .u32 (C : Int), .int .u32 (CA : Int)] x fun e w' => e = .returned (.int .u32 (mxV 1 B BA C CA : Nat)) ∧ Q x w' := fun x => way15_any 1 B BA C CA (by decide) (by decide) lB lBA lC lCA x
  have Wbca : ∀ x, Calls Try.prog 9 #[.int .i64 1, .int .u32 (BA : Int), .int .u32 (BA : Int), .int .u32 (CA : Int), .int .u32 (CA : Int)] x fun e w' => e = .returned (.int .u32 (mxV 1 BA BA CA CA : Nat)) ∧ Q x w' := fun x => way15_any 1 BA BA CA CA (by decide) (by decide) lBA lBA lCA lCA x
  have o1 := ov_mono (s := A) (t := AA) (sa := AA) (d := B) (e := BA) ha' Laa Laa hb' Lba BA BA
  have o2 := ov_le (s := AA) (sa := AA) (d := BA) (Nat.le_refl _) Laa Lba BA
  have o3 := ov_mono (s := B) (t := BA) (sa := BA) (d := C) (e := CA) hb' Lba Lba hc' Lca CA CA
  have o4 := ov_le (s := BA) (sa := BA) (d := CA) (Nat.le_refl _) Lba Lca CA
  have near1 := laid_near ha' hb' hc' Laa Lba Lca BA BA CA CA (mxV 1 BA BA CA CA)
  have near2 := laid_near (Nat.le_refl AA) (Nat.le_refl BA) (Nat.le_refl CA) Laa Lba Lca BA BA CA CA (mxV 1 BA BA CA CA)
  have lab := mxV_lt 1 A AA B BA
  have laab := mxV_lt 1 AA AA BA BA
  have lbc := mxV_lt 1 B BA C CA
  have lbca := mxV_lt 1 BA BA CA CA
  have Wl : ∀ x, Calls Try.prog 9 #[.int .i64 1, .int .u32 ((mxV 1 A AA B BA) : Nat), .int .u32 ((mxV 1 AA AA BA BA) : Nat), .int .u32 (C : Nat), .int .u32 (CA : Nat)] x fun e w' => e = .returned (.int .u32 (mxV 1 (mxV 1 A AA B BA) (mxV 1 AA AA BA BA) C CA : Nat)) ∧ Q x w' := fun x => way15_any 1 (mxV 1 A AA B BA) (mxV 1 AA AA BA BA) C CA (by decide) (by decide) lab laab lC lCA x
  have Wr : ∀ x, Calls Try.prog 9 #[.int .i64 1, .int .u32 (A : Nat), .int .u32 (AA : Nat), .int .u32 ((mxV 1 B BA C CA) : Nat), .int .u32 ((mxV 1 BA BA CA CA) : Nat)] x fun e w' => e = .returned (.int .u32 (mxV 1 A AA (mxV 1 B BA C CA) (mxV 1 BA BA CA CA) : Nat)) ∧ Q x w' := fun x => way15_any 1 A AA (mxV 1 B BA C CA) (mxV 1 BA BA CA CA) (by decide) (by decide) lA lAA lbc lbca x
  have Wla : ∀ x, Calls Try.prog 9 #[.int .i64 1, .int .u32 ((mxV 1 AA AA BA BA) : Nat), .int .u32 ((mxV 1 AA AA BA BA) : Nat), .int .u32 (CA : Nat), .int .u32 (CA : Nat)] x fun e w' => e = .returned (.int .u32 (mxV 1 (mxV 1 AA AA BA BA) (mxV 1 AA AA BA BA) CA CA : Nat)) ∧ Q x w' := fun x => way15_any 1 (mxV 1 AA AA BA BA) (mxV 1 AA AA BA BA) CA CA (by decide) (by decide) laab laab lCA lCA x
  have Wra : ∀ x, Calls Try.prog 9 #[.int .i64 1, .int .u32 (AA : Nat), .int .u32 (AA : Nat), .int .u32 ((mxV 1 BA BA CA CA) : Nat), .int .u32 ((mxV 1 BA BA CA CA) : Nat)] x fun e w' => e = .returned (.int .u32 (mxV 1 AA AA (mxV 1 BA BA CA CA) (mxV 1 BA BA CA CA) : Nat)) ∧ Q x w' := fun x => way15_any 1 AA AA (mxV 1 BA BA CA CA) (mxV 1 BA BA CA CA) (by decide) (by decide) lAA lAA lbca lbca x
  have o5 := ov_mono (s := mxV 1 A AA B BA) (t := mxV 1 AA AA BA BA) (sa := mxV 1 AA AA BA BA) (d := C) (e := CA) o1 o2 o2 hc' Lca CA CA
  have o6 := ov_mono (s := A) (t := AA) (sa := AA) (d := mxV 1 B BA C CA) (e := mxV 1 BA BA CA CA) ha' Laa Laa o3 o4 (mxV 1 BA BA CA CA) (mxV 1 BA BA CA CA)
  have o7 := ov_le (s := mxV 1 AA AA BA BA) (sa := mxV 1 AA AA BA BA) (d := CA) (Nat.le_refl _) o2 Lca CA
  have o8 := ov_le (s := AA) (sa := AA) (d := mxV 1 BA BA CA CA) (Nat.le_refl _) Laa o4 (mxV 1 BA BA CA CA)
  generalize hE1 : mxV 1 (mxV 1 A AA B BA) (mxV 1 AA AA BA BA) C CA = EL at *
  generalize hE2 : mxV 1 A AA (mxV 1 B BA C CA) (mxV 1 BA BA CA CA) = ER at *
  generalize hE3 : mxV 1 (mxV 1 AA AA BA BA) (mxV 1 AA AA BA BA) CA CA = ELA at *
  generalize hE4 : mxV 1 AA AA (mxV 1 BA BA CA CA) (mxV 1 BA BA CA CA) = ERA at *
  have HA1 : ∀ x, Calls Try.prog 11 #[.int .u32 (EL : Nat), .int .u32 (ER : Nat)] x fun e w' => e = .returned (.bool true) ∧ Q x w' := fun x => by
    have := apart_any EL ER (by omega) (by omega) (unit_facts (show EL ≤ 1065353216 by omega)).1 (unit_facts (show ER ≤ 1065353216 by omega)).1 x
    rw [decide_eq_true near1] at this
    exact this
  have HA2 : ∀ x, Calls Try.prog 11 #[.int .u32 (ELA : Nat), .int .u32 (ERA : Nat)] x fun e w' => e = .returned (.bool true) ∧ Q x w' := fun x => by
    have := apart_any ELA ERA (by omega) (by omega) (unit_facts o7).1 (unit_facts o8).1 x
    rw [decide_eq_true near2] at this
    exact this
  generalize mxV 1 A AA B BA = Vab at *
  generalize mxV 1 AA AA BA BA = Vaab at *
  generalize mxV 1 B BA C CA = Vbc at *
  generalize mxV 1 BA BA CA CA = Vbca at *
  clear near1 near2 hE1 hE2 hE3 hE4 lab laab lbc lbca lA lB lC lAA lBA lCA ha' hb' hc' La Lb Lc Laa Lba Lca
  obtain ⟨iA0, hA0⟩ : ∃ i : Int, (A0 : Int) = i := ⟨_, rfl⟩
  obtain ⟨iAA, hAA⟩ : ∃ i : Int, (AA : Int) = i := ⟨_, rfl⟩
  obtain ⟨iB0, hB0⟩ : ∃ i : Int, (B0 : Int) = i := ⟨_, rfl⟩
  obtain ⟨iBA, hBA⟩ : ∃ i : Int, (BA : Int) = i := ⟨_, rfl⟩
  obtain ⟨iC0, hC0⟩ : ∃ i : Int, (C0 : Int) = i := ⟨_, rfl⟩
  obtain ⟨iCA, hCA⟩ : ∃ i : Int, (CA : Int) = i := ⟨_, rfl⟩
  obtain ⟨iA, hA⟩ : ∃ i : Int, (A : Int) = i := ⟨_, rfl⟩
  obtain ⟨iB, hB⟩ : ∃ i : Int, (B : Int) = i := ⟨_, rfl⟩
  obtain ⟨iC, hC⟩ : ∃ i : Int, (C : Int) = i := ⟨_, rfl⟩
  obtain ⟨iVab, hVab⟩ : ∃ i : Int, (Vab : Int) = i := ⟨_, rfl⟩
  obtain ⟨iVaab, hVaab⟩ : ∃ i : Int, (Vaab : Int) = i := ⟨_, rfl⟩
  obtain ⟨iVbc, hVbc⟩ : ∃ i : Int, (Vbc : Int) = i := ⟨_, rfl⟩
  obtain ⟨iVbca, hVbca⟩ : ∃ i : Int, (Vbca : Int) = i := ⟨_, rfl⟩
  obtain ⟨iEL, hEL⟩ : ∃ i : Int, (EL : Int) = i := ⟨_, rfl⟩
  obtain ⟨iER, hER⟩ : ∃ i : Int, (ER : Int) = i := ⟨_, rfl⟩
  obtain ⟨iELA, hELA⟩ : ∃ i : Int, (ELA : Int) = i := ⟨_, rfl⟩
  obtain ⟨iERA, hERA⟩ : ∃ i : Int, (ERA : Int) = i := ⟨_, rfl⟩
  have o1 : iVab ≤ iVaab := by omega
  have o2 : iVaab ≤ 1065353216 := by omega
  have o3 : iVbc ≤ iVbca := by omega
  have o4 : iVbca ≤ 1065353216 := by omega
  have o5 : iEL ≤ iELA := by omega
  have o6 : iER ≤ iERA := by omega
  have o7 : iELA ≤ 1065353216 := by omega
  have o8 : iERA ≤ 1065353216 := by omega
  rw [hA0, hAA, hA] at Ma
  rw [hB0, hBA, hB] at Mb
  rw [hC0, hCA, hC] at Mc
  rw [hA0] at Ua
  rw [hAA] at Uaa
  rw [hB0] at Ub
  rw [hBA] at Uba
  rw [hC0] at Uc
  rw [hCA] at Uca
  rw [hA, hAA, hB, hBA, hVab] at Wab
  rw [hAA, hBA, hVaab] at Waab
  rw [hB, hBA, hC, hCA, hVbc] at Wbc
  rw [hBA, hCA, hVbca] at Wbca
  rw [hVab, hVaab, hC, hCA, hEL] at Wl
  rw [hA, hAA, hVbc, hVbca, hER] at Wr
  rw [hVaab, hCA, hELA] at Wla
  rw [hAA, hVbca, hERA] at Wra
  rw [hEL, hER] at HA1
  rw [hELA, hERA] at HA2
  have Ua := hidm Ua
  have Uaa := hidm Uaa
  have Ub := hidm Ub
  have Uba := hidm Uba
  have Uc := hidm Uc
  have Uca := hidm Uca
  have Wab := hidm Wab
  have Waab := hidm Waab
  have Wbc := hidm Wbc
  have Wbca := hidm Wbca
  have Wl := hidm Wl
  have Wr := hidm Wr
  have Wla := hidm Wla
  have Wra := hidm Wra
  have HA1 := hidm HA1
  have HA2 := hidm HA2
  clear ha haa hb hba hc hca hA0 hAA hA hB0 hBA hB hC0 hCA hC hVab hVaab hVbc hVbca hEL hER hELA hERA
  go_enter Try.func5, Try.ntmps5
  go_wp2_with fail
  refine (known15_any _).mono ?_
  rintro e w1 ⟨rfl, q1⟩
  have HQ : Hid (Q w w1) := q1
  clear q1
  go_wp2_with fail
  refine (Ua.out _).mono ?_
  rintro e w9 ⟨rfl, rfl⟩
  go_wp2_with fail
  refine (Uaa.out _).mono ?_
  rintro e w9 ⟨rfl, rfl⟩
  go_wp2_with fail
  refine (Ub.out _).mono ?_
  rintro e w9 ⟨rfl, rfl⟩
  go_wp2_with fail
  refine (Uba.out _).mono ?_
  rintro e w9 ⟨rfl, rfl⟩
  go_wp2_with fail
  refine (Uc.out _).mono ?_
  rintro e w9 ⟨rfl, rfl⟩
  go_wp2_with fail
  refine (Uca.out _).mono ?_
  rintro e w9 ⟨rfl, rfl⟩
  go_wp2_with fail
  refine (Wab.out _).mono ?_
  rintro e xab ⟨rfl, qab⟩
  have HQ : Hid (Q w xab) := HQ.out.trans qab
  clear qab
  go_wp2_with fail
  refine (Waab.out _).mono ?_
  rintro e xaab ⟨rfl, qaab⟩
  have HQ : Hid (Q w xaab) := HQ.out.trans qaab
  clear qaab
  go_wp2_with fail
  refine (Wbc.out _).mono ?_
  rintro e xbc ⟨rfl, qbc⟩
  have HQ : Hid (Q w xbc) := HQ.out.trans qbc
  clear qbc
  go_wp2_with fail
  refine (Wbca.out _).mono ?_
  rintro e xd ⟨rfl, qd⟩
  have HQ : Hid (Q w xd) := HQ.out.trans qd
  clear qd
  obtain ⟨y, hy⟩ : ∃ y, xd.alloc (.cells #[.int .u32 iVab, .int .u32 iVaab, .int .u32 iVbc, .int .u32 iVbca] 29) = y := ⟨_, rfl⟩
  have qy : Q xd y := by rw [← hy]; exact (Q.refl xd).cells _ _
  have HQ : Hid (Q w y) := HQ.out.trans qy
  have c0 : y.cell? ⟨xd.heap.size, 0, none⟩ = some (.int .u32 iVab) := by rw [← hy]; simp [go_sem]
  have c1 : y.cell? ⟨xd.heap.size, 1, none⟩ = some (.int .u32 iVaab) := by rw [← hy]; simp [go_sem]
  have c2 : y.cell? ⟨xd.heap.size, 2, none⟩ = some (.int .u32 iVbc) := by rw [← hy]; simp [go_sem]
  have c3 : y.cell? ⟨xd.heap.size, 3, none⟩ = some (.int .u32 iVbca) := by rw [← hy]; simp [go_sem]
  obtain ⟨G, hG⟩ : ∃ G, xd.heap.size = G := ⟨_, rfl⟩
  rw [hG] at c0 c1 c2 c3
  clear qy
  go_wp2_with fail
  clear hy hG
  go_loopg [74] 2 (fun m s74 wx => ∃ i : Nat, s74 = .int .i64 i ∧ i + m = 2 ∧ Hid (Q y wx))
  case atStart => exact ⟨0, rfl, by omega, Q.refl _⟩
  case round =>
    obtain ⟨i, rfl, him, HQy⟩ := hrel
    by_cases hi : i < 2
    · have c0r := HQy.out.cell c0
      have c1r := HQy.out.cell c1
      have c2r := HQy.out.cell c2
      have c3r := HQy.out.cell c3
      rcases (by omega : i = 0 ∨ i = 1) with rfl | rfl
      · have n1 : ¬ iVaab < iVab := by omega
        have n2 : ¬ 1065353216 < iVaab := by omega
        go_wp2_with fail
        go_roundg (2 - (0 + 1))
        case measure => go_light; omega
        case rel => go_light; exact ⟨0 + 1, by go_num, by omega, HQy.out.cells _ _⟩
      · have n1 : ¬ iVbca < iVbc := by omega
        have n2 : ¬ 1065353216 < iVbca := by omega
        go_wp2_with fail
        go_roundg (2 - (1 + 1))
        case measure => go_light; omega
        case rel => go_light; exact ⟨1 + 1, by go_num, by omega, HQy.out.cells _ _⟩
    · have hie : i = 2 := by omega
      subst hie
      have HQ : Hid (Q w wr) := HQ.out.trans HQy.out
      go_wp2_with fail
      refine (Wl.out _).mono ?_
      rintro e xl ⟨rfl, ql⟩
      have HQ : Hid (Q w xl) := HQ.out.trans ql
      clear ql
      go_wp2_with fail
      refine (Wr.out _).mono ?_
      rintro e xr ⟨rfl, qr⟩
      have HQ : Hid (Q w xr) := HQ.out.trans qr
      clear qr
      go_wp2_with fail
      refine (Wla.out _).mono ?_
      rintro e xla ⟨rfl, qla⟩
      have HQ : Hid (Q w xla) := HQ.out.trans qla
      clear qla
      go_wp2_with fail
      refine (Wra.out _).mono ?_
      rintro e xra ⟨rfl, qra⟩
      have HQ : Hid (Q w xra) := HQ.out.trans qra
      clear qra
      go_wp2_with fail
      refine (HA1.out _).mono ?_
      rintro e z1 ⟨rfl, q1⟩
      have HQ : Hid (Q w z1) := HQ.out.trans q1
      clear q1
      go_wp2_with fail
      refine (HA2.out _).mono ?_
      rintro e z2 ⟨rfl, q2⟩
      have HQ : Hid (Q w z2) := HQ.out.trans q2
      clear q2
      go_wp2_with fail
      go_ret
      exact ⟨rfl, HQ.out⟩
end Go.Proofs.Ytkgojnjlfkijiaa
