/- Plain facts: a number rounded to binary32, as a signed rung. -/
import Derived.Test.YtcolhgngiflkhaaG2094669a
import Derived.Test.YtcolhgngiflkhaaG1eee353a
import Derived.Test.YtcolhgngiflkhaaG8d4d0414
namespace Go.Proofs.Ytcolhgngiflkhaa
open Go.RowKit
set_option linter.unusedVariables false
set_option linter.unusedSimpArgs false

/-- A number in units of 2^-1074, rounded to binary32: the signed rung. -/
def RS (Z : Int) : Int := if Z < 0 then -(rungOf Ieee.single Z.natAbs (-1074) : Int) else (rungOf Ieee.single Z.natAbs (-1074) : Int)
theorem RS_mono {Y Z : Int} (h : Y ≤ Z) : RS Y ≤ RS Z := by
  unfold RS
  by_cases hy : Y < 0
  · rw [if_pos hy]
    by_cases hz : Z < 0
    · rw [if_pos hz]
      have := rung_mono Ieee.single (-1074) (show Z.natAbs ≤ Y.natAbs by omega)
      omega
    · rw [if_neg hz]; omega
  · rw [if_neg hy, if_neg (by omega)]
    have := rung_mono Ieee.single (-1074) (show Y.natAbs ≤ Z.natAbs by omega)
    omega
theorem srung_told {σ : Bool} {Z : Int} {N : Nat} {b : Int} (hσ : Z ≠ 0 → σ = decide (Z < 0)) (hN : rungOf Ieee.single N b = rungOf Ieee.single Z.natAbs (-1074)) : srung32 (toldD (some (.number σ N b))) = RS Z ∧ nanN (toldD (some (.number σ N b))) = false := by
  rw [toldD_num, hN]
  have hle : rungOf Ieee.single Z.natAbs (-1074) ≤ 2139095040 := by have := rungOf_le Ieee.single Z.natAbs (-1074); rw [inf32] at this; exact this
  obtain ⟨a, b'⟩ := sgn_word32 σ (r := rungOf Ieee.single Z.natAbs (-1074)) (by omega)
  refine ⟨?_, nanN_word hle⟩
  unfold srung32 RS
  rw [a, b']
  by_cases h : Z = 0
  · subst h
    rw [show (0 : Int).natAbs = 0 from rfl, rungOf_zero]
    cases σ <;> rfl
  · rw [hσ h]
    by_cases k : Z < 0
    · rw [decide_eq_true k, if_pos rfl, if_pos k]
    · rw [decide_eq_false k, if_neg (by decide), if_neg k]
theorem samp_eq (a : Nat) {c : Nat} (hc : c = 925) : sampleZ a = sval32 a * 2 ^ c := by
  unfold sampleZ sval32 val32 Ieee.signed
  rw [← hc, Nat.shiftLeft_eq, Nat.pow_add, ← Nat.mul_assoc]
  split
  · rw [Int.neg_mul, Int.natCast_mul, Int.natCast_pow]; rfl
  · rw [Int.natCast_mul, Int.natCast_pow]; rfl
theorem sval_le {a b : Nat} (h : srung32 a ≤ srung32 b) : sval32 a ≤ sval32 b := by
  have e := sval_srung32 a b
  rcases Int.lt_or_le (sval32 b) (sval32 a) with g | g
  · rw [Int.compare_eq_gt.2 g] at e
    have := Int.compare_eq_gt.1 e.symm
    omega
  · exact g
theorem sval_eq {a b : Nat} (h : sval32 a = sval32 b) : srung32 a = srung32 b := by
  have e := sval_srung32 a b
  rw [Int.compare_eq_eq.2 h] at e
  exact Int.compare_eq_eq.1 e.symm
theorem samp_le {a b : Nat} (h : srung32 a ≤ srung32 b) : sampleZ a ≤ sampleZ b := by
  obtain ⟨c, hc⟩ : ∃ c : Nat, c = 925 := ⟨_, rfl⟩
  rw [samp_eq a hc, samp_eq b hc]
  exact Int.mul_le_mul_of_nonneg_right (sval_le h) (Int.le_of_lt (Int.pow_pos (by decide)))
theorem srung_bd {x : Nat} (h : nanN x = false) : -2139095040 ≤ srung32 x ∧ srung32 x ≤ 2139095040 := by
  rw [nanN_rung] at h
  have h := of_decide_eq_false h
  unfold srung32
  split <;> omega
theorem fin_srung {x : Nat} (h : rung32 x < 2139095040) : -2139095040 < srung32 x ∧ srung32 x < 2139095040 := by
  unfold srung32; split <;> omega
theorem RS_self {a : Nat} (h : rung32 a < 2139095040) : RS (sampleZ a) = srung32 a := by
  have habs : (sampleZ a).natAbs = mag32 (rung32 a) * 2 ^ (plc32 (rung32 a) + 925) := by unfold sampleZ; rw [signed_abs]
  have hr : rungOf Ieee.single (sampleZ a).natAbs (-1074) = rung32 a := by
    rw [habs, rung_scale, show (-1074 + ((plc32 (rung32 a) + 925 : Nat) : Int)) = -149 + (plc32 (rung32 a) : Int) by omega]
    exact self32 h
  unfold RS srung32
  rw [hr]
  by_cases z : sampleZ a = 0
  · have : rung32 a = 0 := by rw [← hr, z]; exact rungOf_zero _ _
    rw [this]; split <;> split <;> rfl
  · have hs : sgn32 a = decide (sampleZ a < 0) := signed_sign z
    rw [hs]
    by_cases k : sampleZ a < 0
    · rw [if_pos k, if_pos (decide_eq_true k)]
    · rw [if_neg k, if_neg (by simp; omega)]
end Go.Proofs.Ytcolhgngiflkhaa
/- What taps make of samples, as a number: it rises where weights are not below 0. Plain. -/
namespace Go.Proofs.Ytcolhgngiflkhaa
open Go.RowKit
set_option linter.unusedVariables false
set_option linter.unusedSimpArgs false

theorem RNq_mono {Y Z : Int} (h : Y ≤ Z) : RN Y ≤ RN Z := by
  unfold RN
  by_cases hy : Y < 0
  · rw [if_pos hy]
    by_cases hz : Z < 0
    · rw [if_pos hz]
      have := val_le64 (rung_mono Ieee.double (-1074) (show Z.natAbs ≤ Y.natAbs by omega))
      omega
    · rw [if_neg hz]; omega
  · rw [if_neg hy, if_neg (by omega)]
    have := val_le64 (rung_mono Ieee.double (-1074) (show Y.natAbs ≤ Z.natAbs by omega))
    omega
/-- A finite word of binary64 worth Z. -/
structure Wq (x : Nat) (Z : Int) : Prop where
  fin : rung64 x < 9218868437227405312
  val : sval64 x = Z
theorem Wq.prod {x : Nat} (hx : rung32 x < 2139095040) {y : Int} (h0 : y ≤ 268435456) (h1 : -268435456 ≤ y) : Wq (prodV y x) (y * sampleZ x) := by
  obtain ⟨m, g, a, b, c⟩ := X_formq hx
  obtain ⟨f, v⟩ := (IsDq.prod hx h0 h1).sval a b c (Nat.le_trans (show y.natAbs ≤ 268435456 by omega) (by decide))
  exact ⟨f, v⟩
theorem Wq.add {x y : Nat} {X Y : Int} (hx : Wq x X) (hy : Wq y Y) (hs : (X + Y).natAbs.log2 ≤ 2000) : Wq (add64V x y) (RN (X + Y)) := by
  unfold add64V
  rw [read_fin64 hx.fin, read_fin64 hy.fin]
  obtain ⟨N, c, e1, e2⟩ := sum_units (sgn64 x) (sgn64 y) (mag64 (rung64 x)) (mag64 (rung64 y)) (-1074 + (plc64 (rung64 x) : Int)) (-1074 + (plc64 (rung64 y) : Int)) (by omega) (by omega)
  rw [show (-1074 + (plc64 (rung64 x) : Int) + 1074).toNat = plc64 (rung64 x) by omega, show (-1074 + (plc64 (rung64 y) : Int) + 1074).toNat = plc64 (rung64 y) by omega, ← sval_signed64q, ← sval_signed64q, hx.val, hy.val] at e1 e2
  rw [e1, told64_numq, e2]
  obtain ⟨_, _, h1, h2⟩ := wordOf_facts (σ := sg (sgn64 x) (sgn64 y) (X + Y)) hs (fun h => sg_of h)
  exact ⟨h1, h2⟩
theorem Wq.nought : Wq 9223372036854775808 0 := ⟨by decide, by decide⟩
theorem log_pow {n e : Nat} (h : n ≤ 2 ^ e) (he : e ≤ 1990) : n.log2 ≤ 2000 := by
  by_cases h0 : n = 0
  · subst h0; decide
  · have h2 : n < 2 ^ (e + 1) := by rw [Nat.pow_add]; have := Nat.two_pow_pos e; omega
    have := (Nat.log2_lt h0).2 h2
    omega
/-- Numbers added one behind the other, each sum rounded. -/
def rsum (l : List Int) (z : Int) : Int := l.foldl (fun a b => RN (a + b)) z
theorem rsum_wq : ∀ (l : List (Int × Nat)) (z : Int) (A e : Nat), Wq A z → (∀ p ∈ l, Wq p.2 p.1 ∧ p.1.natAbs ≤ 2 ^ e) → z.natAbs ≤ 2 ^ e → e + 2 * l.length ≤ 1900 → Wq ((l.map Prod.snd).foldl add64V A) (rsum (l.map Prod.fst) z) ∧ (rsum (l.map Prod.fst) z).natAbs ≤ 2 ^ (e + 2 * l.length)
  | [], z, A, e, hA, _, hz, _ => ⟨hA, hz⟩
  | p :: t, z, A, e, hA, hl, hz, he => by
    have hp := hl p (List.mem_cons_self ..)
    have hs : (z + p.1).natAbs ≤ 2 ^ (e + 1) := by rw [Nat.pow_add]; have := hp.2; omega
    have hlog : (z + p.1).natAbs.log2 ≤ 2000 := log_pow hs (by omega)
    have hr : (RN (z + p.1)).natAbs ≤ 2 ^ (e + 2) := by
      have := RN_le hlog
      rw [Nat.pow_add] at hs ⊢
      omega
    have hm : (2 : Nat) ^ e ≤ 2 ^ (e + 2) := Nat.pow_le_pow_right (by decide) (by omega)
    have hlen : (p :: t).length = t.length + 1 := rfl
    have ih := rsum_wq t (RN (z + p.1)) (add64V A p.2) (e + 2) (hA.add hp.1 hlog) (fun q hq => ⟨(hl q (List.mem_cons_of_mem _ hq)).1, Nat.le_trans (hl q (List.mem_cons_of_mem _ hq)).2 hm⟩) hr (by omega)
    rw [hlen, show e + 2 * (t.length + 1) = e + 2 + 2 * t.length by omega]
    exact ih
theorem rsum_mono : ∀ (l : List (Int × Int)) (y z : Int), y ≤ z → (∀ p ∈ l, p.1 ≤ p.2) → rsum (l.map Prod.fst) y ≤ rsum (l.map Prod.snd) z
  | [], y, z, h, _ => h
  | p :: t, y, z, h, hl => rsum_mono t _ _ (RNq_mono (by have := hl p (List.mem_cons_self ..); omega)) (fun q hq => hl q (List.mem_cons_of_mem _ hq))
theorem rsum_dvd {g : Nat} : ∀ (l : List Int) (z : Int) (e : Nat), ((2 ^ g : Nat) : Int) ∣ z → (∀ p ∈ l, ((2 ^ g : Nat) : Int) ∣ p ∧ p.natAbs ≤ 2 ^ e) → z.natAbs ≤ 2 ^ e → e + 2 * l.length ≤ 1900 → ((2 ^ g : Nat) : Int) ∣ rsum l z
  | [], z, e, h, _, _, _ => h
  | p :: t, z, e, h, hl, hz, he => by
    have hp := hl p (List.mem_cons_self ..)
    have hs : (z + p).natAbs ≤ 2 ^ (e + 1) := by rw [Nat.pow_add]; have := hp.2; omega
    have hlog : (z + p).natAbs.log2 ≤ 2000 := log_pow hs (by omega)
    have hr : (RN (z + p)).natAbs ≤ 2 ^ (e + 2) := by
      have := RN_le hlog
      rw [Nat.pow_add] at hs ⊢
      omega
    have hm : (2 : Nat) ^ e ≤ 2 ^ (e + 2) := Nat.pow_le_pow_right (by decide) (by omega)
    have hlen : (p :: t).length = t.length + 1 := rfl
    exact rsum_dvd t (RN (z + p)) (e + 2) (RN_dvd hlog (Int.dvd_add h hp.1)) (fun q hq => ⟨(hl q (List.mem_cons_of_mem _ hq)).1, Nat.le_trans (hl q (List.mem_cons_of_mem _ hq)).2 hm⟩) hr (by omega)
/-- The exact products of taps and samples. -/
def tapZ (L : List (Int × Int)) (S : List Nat) : List Int := L.map fun e => e.2 * sampleZ (S.getD e.1.toNat 0)
def smZ (L : List (Int × Int)) (S : List Nat) : Int := rsum (tapZ L S) 0
theorem prods_taps (L : List (Int × Int)) (S : List Nat) : prods (L.map Prod.snd) (pickV L S) = L.map fun e => prodV e.2 (S.getD e.1.toNat 0) := by
  refine List.ext_getElem? fun i => ?_
  have hlen : (pickV L S).length = L.length := by unfold pickV; simp
  rcases Nat.lt_or_ge i L.length with h | h
  · have hp := prods_at (L.map Prod.snd) (pickV L S) (i := i) (by rw [hlen]; exact h)
    have hl : i < (prods (L.map Prod.snd) (pickV L S)).length := by rw [prods_length, hlen]; exact h
    have hg : L[i]? = some L[i] := List.getElem?_eq_getElem h
    rw [List.getD_eq_getElem?_getD, List.getElem?_eq_getElem hl] at hp
    rw [List.getElem?_eq_getElem hl, List.getElem?_map, hg]
    simp only [Option.getD_some, Option.map_some] at hp ⊢
    rw [hp, pickV_at hg, List.getD_eq_getElem?_getD, List.getElem?_map, hg]
    rfl
  · rw [List.getElem?_eq_none (by rw [prods_length, hlen]; exact h), List.getElem?_eq_none (by simp; exact h)]
theorem sampleZ_cap {a : Nat} (h : rung32 a < 2139095040) {j : Nat} (hj : j = 1202) : (sampleZ a).natAbs ≤ 2 ^ j := by
  unfold sampleZ
  rw [signed_abs]
  have hp := plc_le32 h
  have h1 : mag32 (rung32 a) * 2 ^ (plc32 (rung32 a) + 925) < 2 ^ 24 * 2 ^ (plc32 (rung32 a) + 925) := Nat.mul_lt_mul_of_pos_right (mag_lt32 _) (Nat.two_pow_pos _)
  rw [← Nat.pow_add] at h1
  exact Nat.le_trans (Nat.le_of_lt h1) (Nat.pow_le_pow_right (by decide) (by omega))
theorem tap_cap {a : Nat} (h : rung32 a < 2139095040) {y : Int} (h0 : y ≤ 268435456) (h1 : -268435456 ≤ y) {j : Nat} (hj : j = 1230) : (y * sampleZ a).natAbs ≤ 2 ^ j := by
  have := sampleZ_cap h (j := j - 28) (by omega)
  rw [Int.natAbs_mul]
  have e : 2 ^ j = 2 ^ 28 * 2 ^ (j - 28) := by rw [← Nat.pow_add]; congr 1; omega
  rw [e]
  refine Nat.mul_le_mul ?_ this
  have : (2 : Nat) ^ 28 = 268435456 := by decide
  omega
theorem sampleZ_dvd (a : Nat) {c : Nat} (hc : c = 925) : ((2 ^ c : Nat) : Int) ∣ sampleZ a := by
  unfold sampleZ
  exact signed_dvd _ _ (by omega)
/-- What is divided by 65536. -/
theorem over_wq {D : Nat} {Z Y : Int} (hD : Wq D Z) (hZ : Z = Y * 65536) (hk : 16 ≤ plc64 (rung64 D) ∨ Z = 0) (hp : plc64 (rung64 D) ≤ 1900) : srung32 (overW D) = RS Y ∧ nanN (overW D) = false := by
  have key : Wq (Ieee.double.word (sgn64 D) (rungOf Ieee.double (mag64 (rung64 D)) (-1074 + (plc64 (rung64 D) : Int) - 16))) Y ∧ (Y ≠ 0 → sgn64 D = decide (Y < 0)) := by
    by_cases h0 : Z = 0
    · have hY : Y = 0 := by omega
      have hr : rung64 D = 0 := by rw [← sval_zero, hD.val, h0]
      rw [hr, show mag64 0 = 0 from by decide, rungOf_zero, hY]
      obtain ⟨s1, s2⟩ := sgn_word64 (sgn64 D) (r := 0) (by decide)
      exact ⟨⟨by rw [s2]; decide, sval_zero.2 s2⟩, fun h => absurd rfl h⟩
    · have hk : 16 ≤ plc64 (rung64 D) := hk.resolve_right h0
      have e : Ieee.double.word (sgn64 D) (rungOf Ieee.double (mag64 (rung64 D)) (-1074 + (plc64 (rung64 D) : Int) - 16)) = wordOf (sgn64 D) (Ieee.signed (sgn64 D) (mag64 (rung64 D)) (plc64 (rung64 D) - 16)) := by
        unfold wordOf
        rw [signed_abs, rung_scale]
        congr 2; omega
      obtain ⟨a, b, c⟩ := units_word (s := sgn64 D) (m := mag64 (rung64 D)) (k := plc64 (rung64 D) - 16) (mag_lt64 _) (by omega)
      have h2 : Ieee.signed (sgn64 D) (mag64 (rung64 D)) (plc64 (rung64 D)) = Ieee.signed (sgn64 D) (mag64 (rung64 D)) (plc64 (rung64 D) - 16) * 65536 := by
        rw [signed_eqq, signed_eqq]
        have e2 : mag64 (rung64 D) * 2 ^ plc64 (rung64 D) = mag64 (rung64 D) * 2 ^ (plc64 (rung64 D) - 16) * 65536 := by
          rw [Nat.mul_assoc, show (65536 : Nat) = 2 ^ 16 by decide, ← Nat.pow_add, show plc64 (rung64 D) - 16 + 16 = plc64 (rung64 D) by omega]
        rw [e2]
        split <;> omega
      rw [← sval_signed64q, hD.val, hZ] at h2
      have hY : Ieee.signed (sgn64 D) (mag64 (rung64 D)) (plc64 (rung64 D) - 16) = Y := by omega
      rw [e]
      refine ⟨⟨a, by rw [c, hY]⟩, fun h => ?_⟩
      have := signed_sign (s := sgn64 D) (m := mag64 (rung64 D)) (k := plc64 (rung64 D) - 16)
      rw [hY] at this
      exact this h
  rw [over_fin hD.fin]
  obtain ⟨k1, k2⟩ := key
  obtain ⟨X, hX⟩ : ∃ X, Ieee.double.word (sgn64 D) (rungOf Ieee.double (mag64 (rung64 D)) (-1074 + (plc64 (rung64 D) : Int) - 16)) = X := ⟨_, rfl⟩
  rw [hX] at k1 ⊢
  rw [read_fin64 k1.fin]
  refine srung_told (fun h => ?_) ?_
  · have := signed_sign (s := sgn64 X) (m := mag64 (rung64 X)) (k := plc64 (rung64 X))
    rw [← sval_signed64q, k1.val] at this
    exact this h
  · rw [← k1.val, val_abs]
    unfold val64
    rw [rung_scale]
/-- The sample that taps make of finite samples, as a number. -/
theorem smp_key {m : Nat} {L : List (Int × Int)} {S : List Nat} (ok : TOk m L) (hS : ∀ e ∈ L, rung32 (S.getD e.1.toNat 0) < 2139095040) : ∃ Y : Int, smZ L S = Y * 65536 ∧ srung32 (smpV L S) = RS Y ∧ nanN (smpV L S) = false := by
  obtain ⟨j, hj⟩ : ∃ j : Nat, j = 1230 := ⟨_, rfl⟩
  obtain ⟨c, hc⟩ : ∃ c : Nat, c = 925 := ⟨_, rfl⟩
  have hne : L.map (fun e => prodV e.2 (S.getD e.1.toNat 0)) ≠ [] := fun e => by
    have := congrArg List.length e
    rw [List.length_map] at this
    have h1 := ok.one
    rw [this] at h1
    cases h1
  have h64 := ok.few
  have hcap : ∀ e ∈ L, (e.2 * sampleZ (S.getD e.1.toNat 0)).natAbs ≤ 2 ^ j := fun e he => tap_cap (hS e he) (ok.wt e he).2 (ok.wt e he).1 hj
  obtain ⟨w1, w2⟩ := rsum_wq (L.map fun e => (e.2 * sampleZ (S.getD e.1.toNat 0), prodV e.2 (S.getD e.1.toNat 0))) 0 9223372036854775808 j Wq.nought (fun p hp => by
    obtain ⟨e, he, rfl⟩ := List.mem_map.1 hp
    exact ⟨Wq.prod (hS e he) (ok.wt e he).2 (ok.wt e he).1, hcap e he⟩) (by exact Nat.zero_le _) (by rw [List.length_map]; omega)
  rw [List.map_map, List.map_map] at w1
  rw [List.map_map, List.length_map] at w2
  have hd : dotF (prods (L.map Prod.snd) (pickV L S)) = (L.map fun e => prodV e.2 (S.getD e.1.toNat 0)).foldl add64V 9223372036854775808 := by
    rw [prods_taps]; unfold dotF; rw [if_neg hne]
  have W : Wq (dotF (prods (L.map Prod.snd) (pickV L S))) (smZ L S) := by rw [hd]; exact w1
  have hb : (smZ L S).natAbs ≤ 2 ^ (j + 2 * L.length) := w2
  have hdv : ((2 ^ c : Nat) : Int) ∣ smZ L S := rsum_dvd _ _ j (Int.dvd_zero _) (fun p hp => by
    unfold tapZ at hp
    obtain ⟨e, he, rfl⟩ := List.mem_map.1 hp
    exact ⟨Int.dvd_trans (sampleZ_dvd _ hc) (Int.dvd_mul_left ..), hcap e he⟩) (Nat.zero_le _) (by unfold tapZ; rw [List.length_map]; omega)
  obtain ⟨D, hD⟩ : ∃ D, dotF (prods (L.map Prod.snd) (pickV L S)) = D := ⟨_, rfl⟩
  have hsm : smpV L S = overW D := by rw [← hD]; rfl
  rw [hD] at W
  rw [hsm]
  have hv : (smZ L S).natAbs = val64 (rung64 D) := by rw [← W.val]; exact val_abs D
  obtain ⟨Y, hY⟩ : (65536 : Int) ∣ smZ L S := Int.dvd_trans ⟨2 ^ (c - 16), by rw [show (65536 : Int) = 2 ^ 16 by decide, ← Int.pow_add, show 16 + (c - 16) = c by omega, Int.natCast_pow]; rfl⟩ hdv
  have hY : smZ L S = Y * 65536 := by rw [hY, Int.mul_comm]
  refine ⟨Y, hY, over_wq W hY ?_ ?_⟩
  · by_cases h0 : smZ L S = 0
    · exact Or.inr h0
    · left
      have h1 : 2 ^ c ≤ (smZ L S).natAbs := Nat.le_of_dvd (by omega) (Int.ofNat_dvd_left.1 hdv)
      rw [hv] at h1
      rcases Nat.lt_or_ge (plc64 (rung64 D)) 16 with g | g
      · exfalso
        have h2 := mag_lt64 (rung64 D)
        unfold val64 at h1
        have h3 : mag64 (rung64 D) * 2 ^ plc64 (rung64 D) < 2 ^ 53 * 2 ^ plc64 (rung64 D) := Nat.mul_lt_mul_of_pos_right h2 (Nat.two_pow_pos _)
        rw [← Nat.pow_add] at h3
        have h4 : 2 ^ (53 + plc64 (rung64 D)) ≤ 2 ^ c := Nat.pow_le_pow_right (by decide) (by omega)
        omega
      · exact g
  · rw [hv] at hb
    rcases Nat.lt_or_ge 1900 (plc64 (rung64 D)) with g | g
    · exfalso
      have h1 := mag_ge64 (r := rung64 D) (by omega)
      unfold val64 at hb
      have h2 : 2 ^ (j + 2 * L.length) ≤ 2 ^ plc64 (rung64 D) := Nat.pow_le_pow_right (by decide) (by omega)
      have h3 : 4503599627370496 * 2 ^ plc64 (rung64 D) ≤ mag64 (rung64 D) * 2 ^ plc64 (rung64 D) := Nat.mul_le_mul_right _ h1
      have := Nat.two_pow_pos (plc64 (rung64 D))
      omega
    · exact g
theorem smp_rises {m : Nat} {L : List (Int × Int)} {S T : List Nat} (ok : TOk m L) (hp : ∀ e ∈ L, 0 < e.2) (hS : ∀ e ∈ L, rung32 (S.getD e.1.toNat 0) < 2139095040) (hT : ∀ e ∈ L, rung32 (T.getD e.1.toNat 0) < 2139095040) (hle : ∀ e ∈ L, srung32 (S.getD e.1.toNat 0) ≤ srung32 (T.getD e.1.toNat 0)) : srung32 (smpV L S) ≤ srung32 (smpV L T) := by
  obtain ⟨Y, y1, y2, -⟩ := smp_key ok hS
  obtain ⟨Z, z1, z2, -⟩ := smp_key ok hT
  rw [y2, z2]
  refine RS_mono ?_
  have h := rsum_mono (L.map fun e => (e.2 * sampleZ (S.getD e.1.toNat 0), e.2 * sampleZ (T.getD e.1.toNat 0))) 0 0 (Int.le_refl 0) (fun p hp' => by
    obtain ⟨e, he, rfl⟩ := List.mem_map.1 hp'
    exact Int.mul_le_mul_of_nonneg_left (samp_le (hle e he)) (Int.le_of_lt (hp e he)))
  rw [List.map_map, List.map_map] at h
  have : smZ L S ≤ smZ L T := h
  omega
theorem fin_of_srung {x : Nat} (h : -2139095040 < srung32 x ∧ srung32 x < 2139095040) : rung32 x < 2139095040 := by
  unfold srung32 at h
  split at h <;> omega
/-- No new extremes. -/
theorem smp_between {m : Nat} {L : List (Int × Int)} {S : List Nat} {lo hi : Nat} (ok : TOk m L) (hp : ∀ e ∈ L, 0 < e.2) (hs : sndSum L = 65536) (ha : absL L ≤ 2 ^ 27) (hS : ∀ e ∈ L, rung32 (S.getD e.1.toNat 0) < 2139095040) (hlo : rung32 lo < 2139095040 ∧ lo < 4294967296) (hhi : rung32 hi < 2139095040 ∧ hi < 4294967296)
    (h1 : ∀ e ∈ L, srung32 lo ≤ srung32 (S.getD e.1.toNat 0)) (h2 : ∀ e ∈ L, srung32 (S.getD e.1.toNat 0) ≤ srung32 hi) : srung32 lo ≤ srung32 (smpV L S) ∧ srung32 (smpV L S) ≤ srung32 hi ∧ rung32 (smpV L S) < 2139095040 := by
  have rep : ∀ x, ∀ e ∈ L, (List.replicate m x).getD e.1.toNat 0 = x := fun x e he => by
    have := ok.pl e he
    rw [List.getD_eq_getElem?_getD, List.getElem?_replicate, if_pos (by omega)]
    rfl
  have cl := (smp_const (S := List.replicate m lo) ok hs ha hlo.1 hlo.2 (rep lo)).2 hp
  have ch := (smp_const (S := List.replicate m hi) ok hs ha hhi.1 hhi.2 (rep hi)).2 hp
  have r1 := smp_rises (S := List.replicate m lo) (T := S) ok hp (fun e he => by rw [rep lo e he]; exact hlo.1) hS (fun e he => by rw [rep lo e he]; exact h1 e he)
  have r2 := smp_rises (S := S) (T := List.replicate m hi) ok hp hS (fun e he => by rw [rep hi e he]; exact hhi.1) (fun e he => by rw [rep hi e he]; exact h2 e he)
  rw [cl] at r1
  rw [ch] at r2
  have f1 := fin_srung hlo.1
  have f2 := fin_srung hhi.1
  exact ⟨r1, r2, fin_of_srung ⟨by omega, by omega⟩⟩
end Go.Proofs.Ytcolhgngiflkhaa
/- scale.Row. -/
namespace Go.Proofs.Ytcolhgngiflkhaa
open Go.RowKit
set_option linter.unusedVariables false
set_option linter.unusedSimpArgs false

set_option maxHeartbeats 1000000 in
set_option maxRecDepth 100000 in
theorem sside_any (k : Int) (w : World) : Calls Try.prog 18 #[.int .i64 k] w fun e w' => e = .returned (.bool (decide (1 ≤ k ∧ k ≤ 1024))) ∧ w' = w := by
  by_cases h1 : 1 ≤ k
  · by_cases h2 : k ≤ 1024
    · rw [decide_eq_true ⟨h1, h2⟩]
      go_enter Try.func18, Try.ntmps18
      go_wp2_with fail
      go_ret
      exact ⟨by first | rfl | simp, rfl⟩
    · rw [decide_eq_false (fun h => h2 h.2)]
      go_enter Try.func18, Try.ntmps18
      go_wp2_with fail
      go_ret
      exact ⟨by first | rfl | (simp; omega), rfl⟩
  · rw [decide_eq_false (fun h => h1 h.1)]
    go_enter Try.func18, Try.ntmps18
    go_wp2_with fail
    go_ret
    exact ⟨by first | rfl | (simp; omega), rfl⟩
set_option maxHeartbeats 1000000 in
set_option maxRecDepth 100000 in
theorem refusal_any (kind F T : Int) (w : World) : Calls Try.prog 20 #[.int .i64 kind, .int .i64 F, .int .i64 T] w fun e w' => e = .returned (.int .i64 (tapE kind F T 0)) ∧ Q w w' := by
  have C := taps_all kind F T 0 w
  generalize tapE kind F T 0 = E at *
  generalize tpA kind F T 0 = L at *
  go_enter Try.func20, Try.ntmps20
  go_wp2_with fail
  refine C.mono ?_
  rintro e w1 ⟨v, n, rfl, h⟩
  have HQ : Hid (Q w w1) := h.q
  clear C h
  go_wp2_with fail
  go_ret
  exact ⟨rfl, HQ.out⟩
/-- What Row tells. -/
def rowE (n : Nat) (kind to : Int) : Int := if (1 ≤ n ∧ n ≤ 1024) ∧ (1 ≤ to ∧ to ≤ 1024) then tapE kind n to 0 else 100
def rowL (S : List Nat) (kind to : Int) : List Nat := (List.range to.toNat).map fun (k : Nat) => smpV (tpA kind S.length to (k : Int)) S
theorem tapE_at {kind F T : Int} (h : tapE kind F T 0 = 0) {k : Nat} (hk : (k : Int) < T) : tapE kind F T k = 0 := by
  unfold tapE at h ⊢
  split at h
  · rename_i h1
    rw [if_pos h1]
    split at h
    · rename_i h2
      rw [if_pos ⟨h2.1, h2.2.1, by omega, hk⟩]
      exact h
    · cases h
  · cases h
set_option maxHeartbeats 2000000 in
set_option maxRecDepth 100000 in
theorem row_bad (vl : Value) (S : List Nat) (kind to : Int) (w : World) (hl : USl w vl S) (hm : S.length ≤ 35184372087808) (hE : rowE S.length kind to ≠ 0) :
    Calls Try.prog 14 #[vl, .int .i64 kind, .int .i64 to] w fun e w' => e = .returned (.tuple #[.slice none 0 0, .int .i64 (rowE S.length kind to)]) ∧ Q w w' := by
  obtain ⟨al, cl, rfl⟩ := hl.form
  have HR : Hid (∀ (k : Int) (W : World) (B : Bool), decide (1 ≤ k ∧ k ≤ 1024) = B → Calls Try.prog 18 #[.int .i64 k] W fun e w' => e = .returned (.bool B) ∧ w' = W) := fun k W B h => by rw [← h]; exact sside_any k W
  have C := refusal_any kind S.length to w
  clear hl
  have HRo : Hid (rowE S.length kind to = if (1 ≤ S.length ∧ S.length ≤ 1024) ∧ (1 ≤ to ∧ to ≤ 1024) then tapE kind S.length to 0 else 100) := rfl
  rw [HRo.out] at hE ⊢
  clear HRo
  generalize S.length = n at *
  by_cases hn : 1 ≤ n ∧ n ≤ 1024
  · have d1 : decide ((1 : Int) ≤ (n : Int) ∧ (n : Int) ≤ 1024) = true := decide_eq_true ⟨by omega, by omega⟩
    by_cases ht : 1 ≤ to ∧ to ≤ 1024
    · rw [if_pos ⟨hn, ht⟩] at hE ⊢
      have HD : Hid _ := And.intro d1 (decide_eq_true ht)
      generalize tapE kind n to 0 = E at *
      have hEb : (E != 0) = true := by simpa using hE
      clear d1 hn ht
      go_enter Try.func14, Try.ntmps14
      go_wp2_with (go_at_call 18; first | (refine (HR.out n _ true HD.out.1).mono ?_; rintro e w' ⟨rfl, rfl⟩) | (refine (HR.out to _ true HD.out.2).mono ?_; rintro e w' ⟨rfl, rfl⟩))
      refine C.mono ?_
      rintro e w1 ⟨rfl, q1⟩
      clear C
      have HQ : Hid (Q _ w1) := q1
      clear q1
      go_wp2_with fail
      go_ret2
      exact ⟨rfl, HQ.out⟩
    · rw [if_neg (fun h => ht h.2)]
      have HD : Hid _ := And.intro d1 (decide_eq_false ht)
      clear d1 hn ht C hE
      go_enter Try.func14, Try.ntmps14
      go_wp2_with (go_at_call 18; first | (refine (HR.out n _ true HD.out.1).mono ?_; rintro e w' ⟨rfl, rfl⟩) | (refine (HR.out to _ false HD.out.2).mono ?_; rintro e w' ⟨rfl, rfl⟩))
      go_ret2
      exact ⟨rfl, Q.refl _⟩
  · rw [if_neg (fun h => hn h.1)]
    have HD : Hid _ := decide_eq_false (p := (1 : Int) ≤ (n : Int) ∧ (n : Int) ≤ 1024) (fun h => hn ⟨by omega, by omega⟩)
    clear hn C hE
    go_enter Try.func14, Try.ntmps14
    go_wp2_with (go_at_call 18; refine (HR.out n _ false HD.out).mono ?_; rintro e w' ⟨rfl, rfl⟩)
    go_ret2
    exact ⟨rfl, Q.refl _⟩
set_option maxHeartbeats 2000000 in
set_option maxRecDepth 100000 in
theorem row_good (vl : Value) (S : List Nat) (kind to : Int) (w : World) (hl : USl w vl S) (hb : ∀ i, S.getD i 0 < 4294967296) (hE : rowE S.length kind to = 0) :
    Calls Try.prog 14 #[vl, .int .i64 kind, .int .i64 to] w fun e w' => ∃ b, e = .returned (.tuple #[.slice (some ⟨b, 0, none⟩) to.toNat to.toNat, .int .i64 0]) ∧ Own w w' b (rowL S kind to) := by
  obtain ⟨al, cl, rfl⟩ := hl.form
  unfold rowE at hE
  split at hE
  · rename_i hh
    obtain ⟨⟨n1, n2⟩, t1, t2⟩ := hh
    have HR : Hid (∀ (k : Int) (W : World), 1 ≤ k → k ≤ 1024 → Calls Try.prog 18 #[.int .i64 k] W fun e w' => e = .returned (.bool true) ∧ w' = W) := fun k W h1 h2 => by have := sside_any k W; rw [decide_eq_true ⟨h1, h2⟩] at this; exact this
    have C := refusal_any kind S.length to w
    rw [hE] at C
    obtain ⟨N, hN⟩ : ∃ N : Nat, to = (N : Int) := ⟨to.toNat, by omega⟩
    have HC2 : Hid (∀ W : World, Calls Try.prog 21 #[.int .i64 kind, .int .i64 S.length, .int .i64 to, .int .i64 0, .int .i64 to] W fun e w' => ∃ v, e = .returned v ∧ LnX w' v ((List.range N).map fun (k : Nat) => tpA kind S.length to (k : Int)) ∧ Q W w') := fun W => by
      have := lineOf_any kind S.length to 0 N W (by omega) (by omega)
      simp only [Nat.zero_add] at this
      rw [hN]
      rw [hN] at this
      exact this.mono fun e w' ⟨v, h1, h2, h3⟩ => ⟨v, h1, h2.x, h3⟩
    have HC3 : Hid (∀ (v : Value) (W : World), LnX W v ((List.range N).map fun (k : Nat) => tpA kind S.length to (k : Int)) → Q w W → Calls Try.prog 24 #[v, .slice al S.length cl] W fun e w' => ∃ b, e = .returned (.slice (some ⟨b, 0, none⟩) N N) ∧ Own W w' b (rowL S kind to)) := fun v W hv q => by
      have := line_of v (.slice al S.length cl) _ S W hv (hl.next q) (by rw [List.length_map, List.length_range]; omega) (by omega) hb (fun L hL => by
        obtain ⟨k, hk, rfl⟩ := List.mem_map.1 hL
        have hkN := List.mem_range.1 hk
        have := tpA_tok (tapE_at hE (k := k) (by omega))
        rw [Int.toNat_natCast] at this
        exact this)
      rw [List.length_map, List.length_range, List.map_map] at this
      have e : (List.range N).map ((fun L => smpV L S) ∘ fun (k : Nat) => tpA kind S.length to (k : Int)) = rowL S kind to := by
        unfold rowL
        rw [show to.toNat = N by omega]
        rfl
      rw [e] at this
      exact this
    have HN : Hid (to.toNat = N) := by show _ = _; omega
    have n1z : (1 : Int) ≤ (S.length : Int) := by omega
    have n2z : (S.length : Int) ≤ 1024 := by omega
    rw [HN.out]
    generalize rowL S kind to = RL at *
    generalize (List.range N).map (fun (k : Nat) => tpA kind S.length to (k : Int)) = Ls at *
    clear hl hb hE hN n1 n2
    generalize S.length = n at *
    go_enter Try.func14, Try.ntmps14
    go_wp2_with (go_at_call 18; first | (refine (HR.out n _ n1z n2z).mono ?_; rintro e w' ⟨rfl, hw⟩; obtain rfl := hw.symm) | (refine (HR.out to _ t1 t2).mono ?_; rintro e w' ⟨rfl, hw⟩; obtain rfl := hw.symm))
    refine C.mono ?_
    rintro e w1 ⟨rfl, q1⟩
    clear C
    have HQ : Hid (Q w w1) := q1
    clear q1
    go_wp2_with fail
    refine (HC2.out w1).mono ?_
    rintro e w2 ⟨v2, rfl, l2, q2⟩
    have C3 := HC3.out v2 w2 l2 (HQ.out.trans q2)
    have HQ2 : Hid (Q w w2) := HQ.out.trans q2
    clear l2 q2
    go_wp2_with fail
    refine C3.mono ?_
    rintro e w3 ⟨b, rfl, o3⟩
    clear C3
    have HO : Hid (Own w w3 b RL) := ⟨HQ2.out.trans o3.q, Nat.le_trans HQ2.out.1.size o3.new, o3.cells, o3.free⟩
    clear o3
    go_wp2_with fail
    go_ret2
    exact ⟨b, rfl, HO.out⟩
  · cases hE
end Go.Proofs.Ytcolhgngiflkhaa
