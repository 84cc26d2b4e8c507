/- Plain facts: a number rounded to binary32, as a signed rung. -/
import Derived.Test.YtcolhgngiflkhaaG256ba6d9
import Derived.Test.YtcolhgngiflkhaaGb54a6e1b
import Derived.Test.YtcolhgngiflkhaaG0e2a5e07
namespace Go.Proofs.Ytcolhgngiflkhaa
open Go.RowKit
set_option linter.unusedVariables false
set_option linter.unusedSimpArgs false

/-- A number in units of 2^-1074, rounded to binary32: the signed rung. -/
def RS (Z : Int) : Int := if Z < 0 then -(rungOf Ieee.single Z.natAbs (-1074) : Int) else (rungOf Ieee.single Z.natAbs (-1074) : Int)
theorem RS_mono {Y Z : Int} (h : Y ≤ Z) : RS Y ≤ RS Z := by
  unfold RS
  by_cases hy : Y < 0
  · rw [if_pos hy]
    by_cases hz : Z < 0
    · rw [if_pos hz]
      have := rung_mono Ieee.single (-1074) (show Z.natAbs ≤ Y.natAbs by omega)
      omega
    · rw [if_neg hz]; omega
  · rw [if_neg hy, if_neg (by omega)]
    have := rung_mono Ieee.single (-1074) (show Y.natAbs ≤ Z.natAbs by omega)
    omega
theorem srung_told {σ : Bool} {Z : Int} {N : Nat} {b : Int} (hσ : Z ≠ 0 → σ = decide (Z < 0)) (hN : rungOf Ieee.single N b = rungOf Ieee.single Z.natAbs (-1074)) : srung32 (toldD (some (.number σ N b))) = RS Z ∧ nanN (toldD (some (.number σ N b))) = false := by
  rw [toldD_num, hN]
  have hle : rungOf Ieee.single Z.natAbs (-1074) ≤ 2139095040 := by have := rungOf_le Ieee.single Z.natAbs (-1074); rw [inf32] at this; exact this
  obtain ⟨a, b'⟩ := sgn_word32 σ (r := rungOf Ieee.single Z.natAbs (-1074)) (by omega)
  refine ⟨?_, nanN_word hle⟩
  unfold srung32 RS
  rw [a, b']
  by_cases h : Z = 0
  · subst h
    rw [show (0 : Int).natAbs = 0 from rfl, rungOf_zero]
    cases σ <;> rfl
  · rw [hσ h]
    by_cases k : Z < 0
    · rw [decide_eq_true k, if_pos rfl, if_pos k]
    · rw [decide_eq_false k, if_neg (by decide), if_neg k]
theorem samp_eq (a : Nat) {c : Nat} (hc : c = 925) : sampleZ a = sval32 a * 2 ^ c := by
  unfold sampleZ sval32 val32 Ieee.signed
  rw [← hc, Nat.shiftLeft_eq, Nat.pow_add, ← Nat.mul_assoc]
  split
  · rw [Int.neg_mul, Int.natCast_mul, Int.natCast_pow]; rfl
  · rw [Int.natCast_mul, Int.natCast_pow]; rfl
theorem sval_le {a b : Nat} (h : srung32 a ≤ srung32 b) : sval32 a ≤ sval32 b := by
  have e := sval_srung32 a b
  rcases Int.lt_or_le (sval32 b) (sval32 a) with g | g
  · rw [Int.compare_eq_gt.2 g] at e
    have := Int.compare_eq_gt.1 e.symm
    omega
  · exact g
theorem sval_eq {a b : Nat} (h : sval32 a = sval32 b) : srung32 a = srung32 b := by
  have e := sval_srung32 a b
  rw [Int.compare_eq_eq.2 h] at e
  exact Int.compare_eq_eq.1 e.symm
theorem samp_le {a b : Nat} (h : srung32 a ≤ srung32 b) : sampleZ a ≤ sampleZ b := by
  obtain ⟨c, hc⟩ : ∃ c : Nat, c = 925 := ⟨_, rfl⟩
  rw [samp_eq a hc, samp_eq b hc]
  exact Int.mul_le_mul_of_nonneg_right (sval_le h) (Int.le_of_lt (Int.pow_pos (by decide)))
theorem srung_bd {x : Nat} (h : nanN x = false) : -2139095040 ≤ srung32 x ∧ srung32 x ≤ 2139095040 := by
  rw [nanN_rung] at h
  have h := of_decide_eq_false h
  unfold srung32
  split <;> omega
theorem fin_srung {x : Nat} (h : rung32 x < 2139095040) : -2139095040 < srung32 x ∧ srung32 x < 2139095040 := by
  unfold srung32; split <;> omega
theorem RS_self {a : Nat} (h : rung32 a < 2139095040) : RS (sampleZ a) = srung32 a := by
  have habs : (sampleZ a).natAbs = mag32 (rung32 a) * 2 ^ (plc32 (rung32 a) + 925) := by unfold sampleZ; rw [signed_abs]
  have hr : rungOf Ieee.single (sampleZ a).natAbs (-1074) = rung32 a := by
    rw [habs, rung_scale, show (-1074 + ((plc32 (rung32 a) + 925 : Nat) : Int)) = -149 + (plc32 (rung32 a) : Int) by omega]
    exact self32 h
  unfold RS srung32
  rw [hr]
  by_cases z : sampleZ a = 0
  · have : rung32 a = 0 := by rw [← hr, z]; exact rungOf_zero _ _
    rw [this]; split <;> split <;> rfl
  · have hs : sgn32 a = decide (sampleZ a < 0) := signed_sign z
    rw [hs]
    by_cases k : sampleZ a < 0
    · rw [if_pos k, if_pos (decide_eq_true k)]
    · rw [if_neg k, if_neg (by simp; omega)]
end Go.Proofs.Ytcolhgngiflkhaa
/- What taps make of samples, as a number: it rises where weights are not below 0. Plain. -/
namespace Go.Proofs.Ytcolhgngiflkhaa
open Go.RowKit
set_option linter.unusedVariables false
set_option linter.unusedSimpArgs false

theorem RNq_mono {Y Z : Int} (h : Y ≤ Z) : RN Y ≤ RN Z := by
  unfold RN
  by_cases hy : Y < 0
  · rw [if_pos hy]
    by_cases hz : Z < 0
    · rw [if_pos hz]
      have := val_le64 (rung_mono Ieee.double (-1074) (show Z.natAbs ≤ Y.natAbs by omega))
      omega
    · rw [if_neg hz]; omega
  · rw [if_neg hy, if_neg (by omega)]
    have := val_le64 (rung_mono Ieee.double (-1074) (show Y.natAbs ≤ Z.natAbs by omega))
    omega
/-- A finite word of binary64 worth Z. -/
structure Wq (x : Nat) (Z : Int) : Prop where
  fin : rung64 x < 9218868437227405312
  val : sval64 x = Z
theorem Wq.prod {x : Nat} (hx : rung32 x < 2139095040) {y : Int} (h0 : y ≤ 268435456) (h1 : -268435456 ≤ y) : Wq (prodV y x) (y * sampleZ x) := by
  obtain ⟨m, g, a, b, c⟩ := X_formq hx
  obtain ⟨f, v⟩ := (IsDq.prod hx h0 h1).sval a b c (Nat.le_trans (show y.natAbs ≤ 268435456 by omega) (by decide))
  exact ⟨f, v⟩
theorem Wq.add {x y : Nat} {X Y : Int} (hx : Wq x X) (hy : Wq y Y) (hs : (X + Y).natAbs.log2 ≤ 2000) : Wq (add64V x y) (RN (X + Y)) := by
  unfold add64V
  rw [read_fin64 hx.fin, read_fin64 hy.fin]
  obtain ⟨N, c, e1, e2⟩ := sum_units (sgn64 x) (sgn64 y) (mag64 (rung64 x)) (mag64 (rung64 y)) (-1074 + (plc64 (rung64 x) : Int)) (-1074 + (plc64 (rung64 y) : Int)) (by omega) (by omega)
  rw [show (-1074 + (plc64 (rung64 x) : Int) + 1074).toNat = plc64 (rung64 x) by omega, show (-1074 + (plc64 (rung64 y) : Int) + 1074).toNat = plc64 (rung64 y) by omega, ← sval_signed64q, ← sval_signed64q, hx.val, hy.val] at e1 e2
  rw [e1, told64_numq, e2]
  obtain ⟨_, _, h1, h2⟩ := wordOf_facts (σ := sg (sgn64 x) (sgn64 y) (X + Y)) hs (fun h => sg_of h)
  exact ⟨h1, h2⟩
theorem Wq.nought : Wq 9223372036854775808 0 := ⟨by decide, by decide⟩
theorem log_pow {n e : Nat} (h : n ≤ 2 ^ e) (he : e ≤ 1990) : n.log2 ≤ 2000 := by
  by_cases h0 : n = 0
  · subst h0; decide
  · have h2 : n < 2 ^ (e + 1) := by rw [Nat.pow_add]; have := Nat.two_pow_pos e; omega
    have := (Nat.log2_lt h0).2 h2
    omega
/-- Numbers added one behind the other, each sum rounded. -/
def rsum (l : List Int) (z : Int) : Int := l.foldl (fun a b => RN (a + b)) z
theorem rsum_wq : ∀ (l : List (Int × Nat)) (z : Int) (A e : Nat), Wq A z → (∀ p ∈ l, Wq p.2 p.1 ∧ p.1.natAbs ≤ 2 ^ e) → z.natAbs ≤ 2 ^ e → e + 2 * l.length ≤ 1900 → Wq ((l.map Prod.snd).foldl add64V A) (rsum (l.map Prod.fst) z) ∧ (rsum (l.map Prod.fst) z).natAbs ≤ 2 ^ (e + 2 * l.length)
  | [], z, A, e, hA, _, hz, _ => ⟨hA, hz⟩
  | p :: t, z, A, e, hA, hl, hz, he => by
    have hp := hl p (List.mem_cons_self ..)
    have hs : (z + p.1).natAbs ≤ 2 ^ (e + 1) := by rw [Nat.pow_add]; have := hp.2; omega
    have hlog : (z + p.1).natAbs.log2 ≤ 2000 := log_pow hs (by omega)
    have hr : (RN (z + p.1)).natAbs ≤ 2 ^ (e + 2) := by
      have := RN_le hlog
      rw [Nat.pow_add] at hs ⊢
      omega
    have hm : (2 : Nat) ^ e ≤ 2 ^ (e + 2) := Nat.pow_le_pow_right (by decide) (by omega)
    have hlen : (p :: t).length = t.length + 1 := rfl
    have ih := rsum_wq t (RN (z + p.1)) (add64V A p.2) (e + 2) (hA.add hp.1 hlog) (fun q hq => ⟨(hl q (List.mem_cons_of_mem _ hq)).1, Nat.le_trans (hl q (List.mem_cons_of_mem _ hq)).2 hm⟩) hr (by omega)
    rw [hlen, show e + 2 * (t.length + 1) = e + 2 + 2 * t.length by omega]
    exact ih
theorem rsum_mono : ∀ (l : List (Int × Int)) (y z : Int), y ≤ z → (∀ p ∈ l, p.1 ≤ p.2) → rsum (l.map Prod.fst) y ≤ rsum (l.map Prod.snd) z
  | [], y, z, h, _ => h
  | p :: t, y, z, h, hl => rsum_mono t _ _ (RNq_mono (by have := hl p (List.mem_cons_self ..); omega)) (fun q hq => hl q (List.mem_cons_of_mem _ hq))
theorem rsum_dvd {g : Nat} : ∀ (l : List Int) (z : Int) (e : Nat), ((2 ^ g : Nat) : Int) ∣ z → (∀ p ∈ l, ((2 ^ g : Nat) : Int) ∣ p ∧ p.natAbs ≤ 2 ^ e) → z.natAbs ≤ 2 ^ e → e + 2 * l.length ≤ 1900 → ((2 ^ g : Nat) : Int) ∣ rsum l z
  | [], z, e, h, _, _, _ => h
  | p :: t, z, e, h, hl, hz, he => by
    have hp := hl p (List.mem_cons_self ..)
    have hs : (z + p).natAbs ≤ 2 ^ (e + 1) := by rw [Nat.pow_add]; have := hp.2; omega
    have hlog : (z + p).natAbs.log2 ≤ 2000 := log_pow hs (by omega)
    have hr : (RN (z + p)).natAbs ≤ 2 ^ (e + 2) := by
      have := RN_le hlog
      rw [Nat.pow_add] at hs ⊢
      omega
    have hm : (2 : Nat) ^ e ≤ 2 ^ (e + 2) := Nat.pow_le_pow_right (by decide) (by omega)
    have hlen : (p :: t).length = t.length + 1 := rfl
    exact rsum_dvd t (RN (z + p)) (e + 2) (RN_dvd hlog (Int.dvd_add h hp.1)) (fun q hq => ⟨(hl q (List.mem_cons_of_mem _ hq)).1, Nat.le_trans (hl q (List.mem_cons_of_mem _ hq)).2 hm⟩) hr (by omega)
/-- The exact products of taps and samples. -/
def tapZ (L : List (Int × Int)) (S : List Nat) : List Int := L.map fun e => e.2 * sampleZ (S.getD e.1.toNat 0)
def smZ (L : List (Int × Int)) (S : List Nat) : Int := rsum (tapZ L S) 0
theorem prods_taps (L : List (Int × Int)) (S : List Nat) : prods (L.map Prod.snd) (pickV L S) = L.map fun e => prodV e.2 (S.getD e.1.toNat 0) := by
  refine List.ext_getElem? fun i => ?_
  have hlen : (pickV L S).length = L.length := by unfold pickV; simp
  rcases Nat.lt_or_ge i L.length with h | h
  · have hp := prods_at (L.map Prod.snd) (pickV L S) (i := i) (by rw [hlen]; exact h)
    have hl : i < (prods (L.map Prod.snd) (pickV L S)).length := by rw [prods_length, hlen]; exact h
    have hg : L[i]? = some L[i] := List.getElem?_eq_getElem h
    rw [List.getD_eq_getElem?_getD, List.getElem?_eq_getElem hl] at hp
    rw [List.getElem?_eq_getElem hl, List.getElem?_map, hg]
    simp only [Option.getD_some, Option.map_some] at hp ⊢
    rw [hp, pickV_at hg, List.getD_eq_getElem?_getD, List.getElem?_map, hg]
    rfl
  · rw [List.getElem?_eq_none (by rw [prods_length, hlen]; exact h), List.getElem?_eq_none (by simp; exact h)]
theorem sampleZ_cap {a : Nat} (h : rung32 a < 2139095040) {j : Nat} (hj : j = 1202) : (sampleZ a).natAbs ≤ 2 ^ j := by
  unfold sampleZ
  rw [signed_abs]
  have hp := plc_le32 h
  have h1 : mag32 (rung32 a) * 2 ^ (plc32 (rung32 a) + 925) < 2 ^ 24 * 2 ^ (plc32 (rung32 a) + 925) := Nat.mul_lt_mul_of_pos_right (mag_lt32 _) (Nat.two_pow_pos _)
  rw [← Nat.pow_add] at h1
  exact Nat.le_trans (Nat.le_of_lt h1) (Nat.pow_le_pow_right (by decide) (by omega))
theorem tap_cap {a : Nat} (h : rung32 a < 2139095040) {y : Int} (h0 : y ≤ 268435456) (h1 : -268435456 ≤ y) {j : Nat} (hj : j = 1230) : (y * sampleZ a).natAbs ≤ 2 ^ j := by
  have := sampleZ_cap h (j := j - 28) (by omega)
  rw [Int.natAbs_mul]
  have e : 2 ^ j = 2 ^ 28 * 2 ^ (j - 28) := by rw [← Nat.pow_add]; congr 1; omega
  rw [e]
  refine Nat.mul_le_mul ?_ this
  have : (2 : Nat) ^ 28 = 268435456 := by decide
  omega
theorem sampleZ_dvd (a : Nat) {c : Nat} (hc : c = 925) : ((2 ^ c : Nat) : Int) ∣ sampleZ a := by
  unfold sampleZ
  exact signed_dvd _ _ (by omega)
/-- What is divided by 65536. -/
theorem over_wq {D : Nat} {Z Y : Int} (hD : Wq D Z) (hZ : Z = Y * 65536) (hk : 16 ≤ plc64 (rung64 D) ∨ Z = 0) (hp : plc64 (rung64 D) ≤ 1900) : srung32 (overW D) = RS Y ∧ nanN (overW D) = false := by
  have key : Wq (Ieee.double.word (sgn64 D) (rungOf Ieee.double (mag64 (rung64 D)) (-1074 + (plc64 (rung64 D) : Int) - 16))) Y ∧ (Y ≠ 0 → sgn64 D = decide (Y < 0)) := by
    by_cases h0 : Z = 0
    · have hY : Y = 0 := by omega
      have hr : rung64 D = 0 := by rw [← sval_zero, hD.val, h0]
      rw [hr, show mag64 0 = 0 from by decide, rungOf_zero, hY]
      obtain ⟨s1, s2⟩ := sgn_word64 (sgn64 D) (r := 0) (by decide)
      exact ⟨⟨by rw [s2]; decide, sval_zero.2 s2⟩, fun h => absurd rfl h⟩
    · have hk : 16 ≤ plc64 (rung64 D) := hk.resolve_right h0
      have e : Ieee.double.word (sgn64 D) (rungOf Ieee.double (mag64 (rung64 D)) (-1074 + (plc64 (rung64 D) : Int) - 16)) = wordOf (sgn64 D) (Ieee.signed (sgn64 D) (mag64 (rung64 D)) (plc64 (rung64 D) - 16)) := by
        unfold wordOf
        rw [signed_abs, rung_scale]
        congr 2; omega
      obtain ⟨a, b, c⟩ := units_word (s := sgn64 D) (m := mag64 (rung64 D)) (k := plc64 (rung64 D) - 16) (mag_lt64 _) (by omega)
      have h2 : Ieee.signed (sgn64 D) (mag64 (rung64 D)) (plc64 (rung64 D)) = Ieee.signed (sgn64 D) (mag64 (rung64 D)) (plc64 (rung64 D) - 16) * 65536 := by
        rw [signed_eqq, signed_eqq]
        have e2 : mag64 (rung64 D) * 2 ^ plc64 (rung64 D) = mag64 (rung64 D) * 2 ^ (plc64 (rung64 D) - 16) * 65536 := by
          rw [Nat.mul_assoc, show (65536 : Nat) = 2 ^ 16 by decide, ← Nat.pow_add, show plc64 (rung64 D) - 16 + 16 = plc64 (rung64 D) by omega]
        rw [e2]
        split <;> omega
      rw [← sval_signed64q, hD.val, hZ] at h2
      have hY : Ieee.signed (sgn64 D) (mag64 (rung64 D)) (plc64 (rung64 D) - 16) = Y := by omega
      rw [e]
      refine ⟨⟨a, by rw [c, hY]⟩, fun h => ?_⟩
      have := signed_sign (s := sgn64 D) (m := mag64 (rung64 D)) (k := plc64 (rung64 D) - 16)
      rw [hY] at this
      exact this h
  rw [over_fin hD.fin]
  obtain ⟨k1, k2⟩ := key
  obtain ⟨X, hX⟩ : ∃ X, Ieee.double.word (sgn64 D) (rungOf Ieee.double (mag64 (rung64 D)) (-1074 + (plc64 (rung64 D) : Int) - 16)) = X := ⟨_, rfl⟩
  rw [hX] at k1 ⊢
  rw [read_fin64 k1.fin]
  refine srung_told (fun h => ?_) ?_
  · have := signed_sign (s := sgn64 X) (m := mag64 (rung64 X)) (k := plc64 (rung64 X))
    rw [← sval_signed64q, k1.val] at this
    exact this h
  · rw [← k1.val, val_abs]
    unfold val64
    rw [rung_scale]
/-- The sample that taps make of finite samples, as a number. -/
theorem smp_key {m : Nat} {L : List (Int × Int)} {S : List Nat} (ok : TOk m L) (hS : ∀ e ∈ L, rung32 (S.getD e.1.toNat 0) < 2139095040) : ∃ Y : Int, smZ L S = Y * 65536 ∧ srung32 (smpV L S) = RS Y ∧ nanN (smpV L S) = false := by
  obtain ⟨j, hj⟩ : ∃ j : Nat, j = 1230 := ⟨_, rfl⟩
  obtain ⟨c, hc⟩ : ∃ c : Nat, c = 925 := ⟨_, rfl⟩
  have hne : L.map (fun e => prodV e.2 (S.getD e.1.toNat 0)) ≠ [] := fun e => by
    have := congrArg List.length e
    rw [List.length_map] at this
    have h1 := ok.one
    rw [this] at h1
    cases h1
  have h64 := ok.few
  have hcap : ∀ e ∈ L, (e.2 * sampleZ (S.getD e.1.toNat 0)).natAbs ≤ 2 ^ j := fun e he => tap_cap (hS e he) (ok.wt e he).2 (ok.wt e he).1 hj
  obtain ⟨w1, w2⟩ := rsum_wq (L.map fun e => (e.2 * sampleZ (S.getD e.1.toNat 0), prodV e.2 (S.getD e.1.toNat 0))) 0 9223372036854775808 j Wq.nought (fun p hp => by
    obtain ⟨e, he, rfl⟩ := List.mem_map.1 hp
    exact ⟨Wq.prod (hS e he) (ok.wt e he).2 (ok.wt e he).1, hcap e he⟩) (by exact Nat.zero_le _) (by rw [List.length_map]; omega)
  rw [List.map_map, List.map_map] at w1
  rw [List.map_map, List.length_map] at w2
  have hd : dotF (prods (L.map Prod.snd) (pickV L S)) = (L.map fun e => prodV e.2 (S.getD e.1.toNat 0)).foldl add64V 9223372036854775808 := by
    rw [prods_taps]; unfold dotF; rw [if_neg hne]
  have W : Wq (dotF (prods (L.map Prod.snd) (pickV L S))) (smZ L S) := by rw [hd]; exact w1
  have hb : (smZ L S).natAbs ≤ 2 ^ (j + 2 * L.length) := w2
  have hdv : ((2 ^ c : Nat) : Int) ∣ smZ L S := rsum_dvd _ _ j (Int.dvd_zero _) (fun p hp => by
    unfold tapZ at hp
    obtain ⟨e, he, rfl⟩ := List.mem_map.1 hp
    exact ⟨Int.dvd_trans (sampleZ_dvd _ hc) (Int.dvd_mul_left ..), hcap e he⟩) (Nat.zero_le _) (by unfold tapZ; rw [List.length_map]; omega)
  obtain ⟨D, hD⟩ : ∃ D, dotF (prods (L.map Prod.snd) (pickV L S)) = D := ⟨_, rfl⟩
  have hsm : smpV L S = overW D := by rw [← hD]; rfl
  rw [hD] at W
  rw [hsm]
  have hv : (smZ L S).natAbs = val64 (rung64 D) := by rw [← W.val]; exact val_abs D
  obtain ⟨Y, hY⟩ : (65536 : Int) ∣ smZ L S := Int.dvd_trans ⟨2 ^ (c - 16), by rw [show (65536 : Int) = 2 ^ 16 by decide, ← Int.pow_add, show 16 + (c - 16) = c by omega, Int.natCast_pow]; rfl⟩ hdv
  have hY : smZ L S = Y * 65536 := by rw [hY, Int.mul_comm]
  refine ⟨Y, hY, over_wq W hY ?_ ?_⟩
  · by_cases h0 : smZ L S = 0
    · exact Or.inr h0
    · left
      have h1 : 2 ^ c ≤ (smZ L S).natAbs := Nat.le_of_dvd (by omega) (Int.ofNat_dvd_left.1 hdv)
      rw [hv] at h1
      rcases Nat.lt_or_ge (plc64 (rung64 D)) 16 with g | g
      · exfalso
        have h2 := mag_lt64 (rung64 D)
        unfold val64 at h1
        have h3 : mag64 (rung64 D) * 2 ^ plc64 (rung64 D) < 2 ^ 53 * 2 ^ plc64 (rung64 D) := Nat.mul_lt_mul_of_pos_right h2 (Nat.two_pow_pos _)
        rw [← Nat.pow_add] at h3
        have h4 : 2 ^ (53 + plc64 (rung64 D)) ≤ 2 ^ c := Nat.pow_le_pow_right (by decide) (by omega)
        omega
      · exact g
  · rw [hv] at hb
    rcases Nat.lt_or_ge 1900 (plc64 (rung64 D)) with g | g
    · exfalso
      have h1 := mag_ge64 (r := rung64 D) (by omega)
      unfold val64 at hb
      have h2 : 2 ^ (j + 2 * L.length) ≤ 2 ^ plc64 (rung64 D) := Nat.pow_le_pow_right (by decide) (by omega)
      have h3 : 4503599627370496 * 2 ^ plc64 (rung64 D) ≤ mag64 (rung64 D) * 2 ^ plc64 (rung64 D) := Nat.mul_le_mul_right _ h1
      have := Nat.two_pow_pos (plc64 (rung64 D))
      omega
    · exact g
theorem smp_rises {m : Nat} {L : List (Int × Int)} {S T : List Nat} (ok : TOk m L) (hp : ∀ e ∈ L, 0 < e.2) (hS : ∀ e ∈ L, rung32 (S.getD e.1.toNat 0) < 2139095040) (hT : ∀ e ∈ L, rung32 (T.getD e.1.toNat 0) < 2139095040) (hle : ∀ e ∈ L, srung32 (S.getD e.1.toNat 0) ≤ srung32 (T.getD e.1.toNat 0)) : srung32 (smpV L S) ≤ srung32 (smpV L T) := by
  obtain ⟨Y, y1, y2, -⟩ := smp_key ok hS
  obtain ⟨Z, z1, z2, -⟩ := smp_key ok hT
  rw [y2, z2]
  refine RS_mono ?_
  have h := rsum_mono (L.map fun e => (e.2 * sampleZ (S.getD e.1.toNat 0), e.2 * sampleZ (T.getD e.1.toNat 0))) 0 0 (Int.le_refl 0) (fun p hp' => by
    obtain ⟨e, he, rfl⟩ := List.mem_map.1 hp'
    exact Int.mul_le_mul_of_nonneg_left (samp_le (hle e he)) (Int.le_of_lt (hp e he)))
  rw [List.map_map, List.map_map] at h
  have : smZ L S ≤ smZ L T := h
  omega
theorem fin_of_srung {x : Nat} (h : -2139095040 < srung32 x ∧ srung32 x < 2139095040) : rung32 x < 2139095040 := by
  unfold srung32 at h
  split at h <;> omega
/-- No new extremes. -/
theorem smp_between {m : Nat} {L : List (Int × Int)} {S : List Nat} {lo hi : Nat} (ok : TOk m L) (hp : ∀ e ∈ L, 0 < e.2) (hs : sndSum L = 65536) (ha : absL L ≤ 2 ^ 27) (hS : ∀ e ∈ L, rung32 (S.getD e.1.toNat 0) < 2139095040) (hlo : rung32 lo < 2139095040 ∧ lo < 4294967296) (hhi : rung32 hi < 2139095040 ∧ hi < 4294967296)
    (h1 : ∀ e ∈ L, srung32 lo ≤ srung32 (S.getD e.1.toNat 0)) (h2 : ∀ e ∈ L, srung32 (S.getD e.1.toNat 0) ≤ srung32 hi) : srung32 lo ≤ srung32 (smpV L S) ∧ srung32 (smpV L S) ≤ srung32 hi ∧ rung32 (smpV L S) < 2139095040 := by
  have rep : ∀ x, ∀ e ∈ L, (List.replicate m x).getD e.1.toNat 0 = x := fun x e he => by
    have := ok.pl e he
    rw [List.getD_eq_getElem?_getD, List.getElem?_replicate, if_pos (by omega)]
    rfl
  have cl := (smp_const (S := List.replicate m lo) ok hs ha hlo.1 hlo.2 (rep lo)).2 hp
  have ch := (smp_const (S := List.replicate m hi) ok hs ha hhi.1 hhi.2 (rep hi)).2 hp
  have r1 := smp_rises (S := List.replicate m lo) (T := S) ok hp (fun e he => by rw [rep lo e he]; exact hlo.1) hS (fun e he => by rw [rep lo e he]; exact h1 e he)
  have r2 := smp_rises (S := S) (T := List.replicate m hi) ok hp hS (fun e he => by rw [rep hi e he]; exact hhi.1) (fun e he => by rw [rep hi e he]; exact h2 e he)
  rw [cl] at r1
  rw [ch] at r2
  have f1 := fin_srung hlo.1
  have f2 := fin_srung hhi.1
  exact ⟨r1, r2, fin_of_srung ⟨by omega, by omega⟩⟩
end Go.Proofs.Ytcolhgngiflkhaa
/- scale.Row. -/
namespace Go.Proofs.Ytcolhgngiflkhaa
open Go.RowKit
set_option linter.unusedVariables false
set_option linter.unusedSimpArgs false

set_option maxHeartbeats 1000000 in
set_option maxRecDepth 100000 in
theorem sside_any (k : Int) (w : World) : Calls Try.prog 18 #[.int .i64 k] w fun e w' => e = .returned (.bool (decide (1 ≤ k ∧ k ≤ 1024))) ∧ w' = w := by
  by_cases h1 : 1 ≤ k
  · by_cases h2 : k ≤ 1024
    · rw [decide_eq_true ⟨h1, h2⟩]
      go_enter Try.func18, Try.ntmps18
      go_wp2_with fail
      go_ret
      exact ⟨by first | rfl | simp, rfl⟩
    · rw [decide_eq_false (fun h => h2 h.2)]
      go_enter Try.func18, Try.ntmps18
      go_wp2_with fail
      go_ret
      exact ⟨by first | rfl | (simp; omega), rfl⟩
  · rw [decide_eq_false (fun h => h1 h.1)]
    go_enter Try.func18, Try.ntmps18
    go_wp2_with fail
    go_ret
    exact ⟨by first | rfl | (simp; omega), rfl⟩
set_option maxHeartbeats 1000000 in
set_option maxRecDepth 100000 in
theorem refusal_any (kind F T : Int) (w : World) : Calls Try.prog 20 #[.int .i64 kind, .int .i64 F, .int .i64 T] w fun e w' => e = .returned (.int .i64 (tapE kind F T 0)) ∧ Q w w' := by
  have C := taps_all kind F T 0 w
  generalize tapE kind F T 0 = E at *
  generalize tpA kind F T 0 = L at *
  go_enter Try.func20, Try.ntmps20
  go_wp2_with fail
  refine C.mono ?_
  rintro e w1 ⟨v, n, rfl, h⟩
  have HQ : Hid (Q w w1) := h.q
  clear C h
  go_wp2_with fail
  go_ret
  exact ⟨rfl, HQ.out⟩
/-- What Row tells. -/
def rowE (n : Nat) (kind to : Int) : Int := if (1 ≤ n ∧ n ≤ 1024) ∧ (1 ≤ to ∧ to ≤ 1024) then tapE kind n to 0 else 100
def rowL (S : List Nat) (kind to : Int) : List Nat := (List.range to.toNat).map fun (k : Nat) => smpV (tpA kind S.length to (k : Int)) S
theorem tapE_at {kind F T : Int} (h : tapE kind F T 0 = 0) {k : Nat} (hk : (k : Int) < T) : tapE kind F T k = 0 := by
  unfold tapE at h ⊢
  split at h
  · rename_i h1
    rw [if_pos h1]
    split at h
    · rename_i h2
      rw [if_pos ⟨h2.1, h2.2.1, by omega, hk⟩]
      exact h
    · cases h
  · cases h
set_option maxHeartbeats 2000000 in
set_option maxRecDepth 100000 in
theorem row_bad (vl : Value) (S : List Nat) (kind to : Int) (w : World) (hl : USl w vl S) (hm : S.length ≤ 35184372087808) (hE : rowE S.length kind to ≠ 0) :
    Calls Try.prog 14 #[vl, .int .i64 kind, .int .i64 to] w fun e w' => e = .returned (.tuple #[.slice none 0 0, .int .i64 (rowE S.length kind to)]) ∧ Q w w' := by
  obtain ⟨al, cl, rfl⟩ := hl.form
  have HR : Hid (∀ (k : Int) (W : World) (B : Bool), decide (1 ≤ k ∧ k ≤ 1024) = B → Calls Try.prog 18 #[.int .i64 k] W fun e w' => e = .returned (.bool B) ∧ w' = W) := fun k W B h => by rw [← h]; exact sside_any k W
  have C := refusal_any kind S.length to w
  clear hl
  have HRo : Hid (rowE S.length kind to = if (1 ≤ S.length ∧ S.length ≤ 1024) ∧ (1 ≤ to ∧ to ≤ 1024) then tapE kind S.length to 0 else 100) := rfl
  rw [HRo.out] at hE ⊢
  clear HRo
  generalize S.length = n at *
  by_cases hn : 1 ≤ n ∧ n ≤ 1024
  · have d1 : decide ((1 : Int) ≤ (n : Int) ∧ (n : Int) ≤ 1024) = true := decide_eq_true ⟨by omega, by omega⟩
    by_cases ht : 1 ≤ to ∧ to ≤ 1024
    · rw [if_pos ⟨hn, ht⟩] at hE ⊢
      have HD : Hid _ := And.intro d1 (decide_eq_true ht)
      generalize tapE kind n to 0 = E at *
      have hEb : (E != 0) = true := by simpa using hE
      clear d1 hn ht
      go_enter Try.func14, Try.ntmps14
      go_wp2_with (go_at_call 18; first | (refine (HR.out n _ true HD.out.1).mono ?_; rintro e w' ⟨rfl, rfl⟩) | (refine (HR.out to _ true HD.out.2).mono ?_; rintro e w' ⟨rfl, rfl⟩))
      refine C.mono ?_
      rintro e w1 ⟨rfl, q1⟩
      clear C
      have HQ : Hid (Q _ w1) := q1
      clear q1
      go_wp2_with fail
      go_ret2
      exact ⟨rfl, HQ.out⟩
    · rw [if_neg (fun h => ht h.2)]
      have HD : Hid _ := And.intro d1 (decide_eq_false ht)
      clear d1 hn ht C hE
      go_enter Try.func14, Try.ntmps14
      go_wp2_with (go_at_call 18; first | (refine (HR.out n _ true HD.out.1).mono ?_; rintro e w' ⟨rfl, rfl⟩) | (refine (HR.out to _ false HD.out.2).mono ?_; rintro e w' ⟨rfl, rfl⟩))
      go_ret2
      exact ⟨rfl, Q.refl _⟩
  · rw [if_neg (fun h => hn h.1)]
    have HD : Hid _ := decide_eq_false (p := (1 : Int) ≤ (n : Int) ∧ (n : Int) ≤ 1024) (fun h => hn ⟨by omega, by omega⟩)
    clear hn C hE
    go_enter Try.func14, Try.ntmps14
    go_wp2_with (go_at_call 18; refine (HR.out n _ false HD.out).mono ?_; rintro e w' ⟨rfl, rfl⟩)
    go_ret2
    exact ⟨rfl, Q.refl _⟩
set_option maxHeartbeats 2000000 in
set_option maxRecDepth 100000 in
theorem row_good (vl : Value) (S : List Nat) (kind to : Int) (w : World) (hl : USl w vl S) (hb : ∀ i, S.getD i 0 < 4294967296) (hE : rowE S.length kind to = 0) :
    Calls Try.prog 14 #[vl, .int .i64 kind, .int .i64 to] w fun e w' => ∃ b, e = .returned (.tuple #[.slice (some ⟨b, 0, none⟩) to.toNat to.toNat, .int .i64 0]) ∧ Own w w' b (rowL S kind to) := by
  obtain ⟨al, cl, rfl⟩ := hl.form
  unfold rowE at hE
  split at hE
  · rename_i hh
    obtain ⟨⟨n1, n2⟩, t1, t2⟩ := hh
    have HR : Hid (∀ (k : Int) (W : World), 1 ≤ k → k ≤ 1024 → Calls Try.prog 18 #[.int .i64 k] W fun e w' => e = .returned (.bool true) ∧ w' = W) := fun k W h1 h2 => by have := sside_any k W; rw [decide_eq_true ⟨h1, h2⟩] at this; exact this
    have C := refusal_any kind S.length to w
    rw [hE] at C
    obtain ⟨N, hN⟩ : ∃ N : Nat, to = (N : Int) := ⟨to.toNat, by omega⟩
    have HC2 : Hid (∀ W : World, Calls Try.prog 21 #[.int .i64 kind, .int .i64 S.length, .int .i64 to, .int .i64 0, .int .i64 to] W fun e w' => ∃ v, e = .returned v ∧ LnX w' v ((List.range N).map fun (k : Nat) => tpA kind S.length to (k : Int)) ∧ Q W w') := fun W => by
      have := lineOf_any kind S.length to 0 N W (by omega) (by omega)
      simp only [Nat.zero_add] at this
      rw [hN]
      rw [hN] at this
      exact this.mono fun e w' ⟨v, h1, h2, h3⟩ => ⟨v, h1, h2.x, h3⟩
    have HC3 : Hid (∀ (v : Value) (W : World), LnX W v ((List.range N).map fun (k : Nat) => tpA kind S.length to (k : Int)) → Q w W → Calls Try.prog 24 #[v, .slice al S.length cl] W fun e w' => ∃ b, e = .returned (.slice (some ⟨b, 0, none⟩) N N) ∧ Own W w' b (rowL S kind to)) := fun v W hv q => by
      have := line_of v (.slice al S.length cl) _ S W hv (hl.next q) (by rw [List.length_map, List.length_range]; omega) (by omega) hb (fun L hL => by
        obtain ⟨k, hk, rfl⟩ := List.mem_map.1 hL
        have hkN := List.mem_range.1 hk
        have := tpA_tok (tapE_at hE (k := k) (by omega))
        rw [Int.toNat_natCast] at this
        exact this)
      rw [List.length_map, List.length_range, List.map_map] at this
      have e : (List.range N).map ((fun L => smpV L S) ∘ fun (k : Nat) => tpA kind S.length to (k : Int)) = rowL S kind to := by
        unfold rowL
        rw [show to.toNat = N by omega]
        rfl
      rw [e] at this
      exact this
    have HN : Hid (to.toNat = N) := by show _ = _; omega
    have n1z : (1 : Int) ≤ (S.length : Int) := by omega
    have n2z : (S.length : Int) ≤ 1024 := by omega
    rw [HN.out]
    generalize rowL S kind to = RL at *
    generalize (List.range N).map (fun (k : Nat) => tpA kind S.length to (k : Int)) = Ls at *
    clear hl hb hE hN n1 n2
    generalize S.length = n at *
    go_enter Try.func14, Try.ntmps14
    go_wp2_with (go_at_call 18; first | (refine (HR.out n _ n1z n2z).mono ?_; rintro e w' ⟨rfl, hw⟩; obtain rfl := hw.symm) | (refine (HR.out to _ t1 t2).mono ?_; rintro e w' ⟨rfl, hw⟩; obtain rfl := hw.symm))
    refine C.mono ?_
    rintro e w1 ⟨rfl, q1⟩
    clear C
    have HQ : Hid (Q w w1) := q1
    clear q1
    go_wp2_with fail
    refine (HC2.out w1).mono ?_
    rintro e w2 ⟨v2, rfl, l2, q2⟩
    have C3 := HC3.out v2 w2 l2 (HQ.out.trans q2)
    have HQ2 : Hid (Q w w2) := HQ.out.trans q2
    clear l2 q2
    go_wp2_with fail
    refine C3.mono ?_
    rintro e w3 ⟨b, rfl, o3⟩
    clear C3
    have HO : Hid (Own w w3 b RL) := ⟨HQ2.out.trans o3.q, Nat.le_trans HQ2.out.1.size o3.new, o3.cells, o3.free⟩
    clear o3
    go_wp2_with fail
    go_ret2
    exact ⟨b, rfl, HO.out⟩
  · cases hE
end Go.Proofs.Ytcolhgngiflkhaa
/- piece: a piece of a plane of another size. -/
namespace Go.Proofs.Ytcolhgngiflkhaa
open Go.RowKit
set_option linter.unusedVariables false
set_option linter.unusedSimpArgs false

set_option maxHeartbeats 8000000 in
set_option maxRecDepth 100000 in
theorem piece_any (kind W H x0 x1 y0 y1 : Int) (pa pb nx ny : Nat) (A D : LLs) (sv : Value) (S : List Nat) (w : World)
    (k1 : ∀ x : World, Calls Try.prog 21 #[.int .i64 kind, .int .i64 (pa : Int), .int .i64 W, .int .i64 x0, .int .i64 x1] x fun e x' => ∃ v, e = .returned v ∧ LnJ x.heap.size x'.heap.size x' v A ∧ Q x x')
    (k2 : ∀ x : World, Calls Try.prog 21 #[.int .i64 kind, .int .i64 (pb : Int), .int .i64 H, .int .i64 y0, .int .i64 y1] x fun e x' => ∃ v, e = .returned v ∧ LnJ x.heap.size x'.heap.size x' v D ∧ Q x x')
    (hsv : USl w sv S) (hsz : Size pa pb) (hS : S.length = pa * pb) (hb : ∀ i, S.getD i 0 < 4294967296) (hA : ∀ L ∈ A, TOk pa L) (hD : ∀ L ∈ D, TOk pb L ∧ L.Pairwise (fun x y => x.1 < y.1)) (hx : A.length = nx) (hy : D.length = ny) (hx1 : 1 ≤ nx) (hy1 : 1 ≤ ny) (hx2 : nx ≤ 1024) (hy2 : ny ≤ 1024) :
    Calls Try.prog 17 #[.agg #[.int .i64 (pa : Int), .int .i64 (pb : Int), sv], .int .i64 kind, .int .i64 W, .int .i64 H, .agg #[.int .i64 x0, .int .i64 y0, .int .i64 x1, .int .i64 y1]] w fun e w' => ∃ g, e = .returned (.agg #[.int .i64 (nx : Int), .int .i64 (ny : Int), .slice (some ⟨g, 0, none⟩) (nx * ny) (nx * ny)]) ∧ URow w' g (tabN (nx * ny) fun i => pieceV A D S pa pb (i % nx) (i / nx)) ∧ w.heap.size ≤ g ∧ Q w w' := by
  have hSp : 1 ≤ S.length := by rw [hS]; exact hsz.pos
  obtain ⟨gs, os, cs, rfl, hcs, hU⟩ := hsv.some hSp
  have HK1 : Hid _ := k1
  have HK2 : Hid _ := k2
  have HU : Hid (UIs w gs os S ∧ S.length ≤ cs ∧ S.length = pa * pb ∧ ∀ i, S.getD i 0 < 4294967296) := ⟨hU, hcs, hS, hb⟩
  have HSz : Hid (Size pa pb) := hsz
  have HA : Hid (∀ L ∈ A, TOk pa L) := hA
  have HD : Hid (∀ L ∈ D, TOk pb L ∧ L.Pairwise (fun x y => x.1 < y.1)) := hD
  have HX : Hid (A.length = nx ∧ D.length = ny) := ⟨hx, hy⟩
  obtain ⟨n, hn⟩ : ∃ n, nx * ny = n := ⟨_, rfl⟩
  have HN : Hid (nx * ny = n) := hn
  have hnb : n ≤ 1048576 := by rw [← hn]; exact Nat.le_trans (Nat.mul_le_mul hx2 hy2) (by decide)
  have pa1 := hsz.a1
  have pa2 := hsz.a2
  have pb1 := hsz.b1
  have pb2 := hsz.b2
  obtain ⟨sl, hsl⟩ : ∃ sl, S.length = sl := ⟨_, rfl⟩
  rw [hsl, hn]
  have HSl : Hid (S.length = sl) := hsl
  clear k1 k2 hsv hsz hS hb hA hD hx hy hU hcs hSp hn hsl
  go_enter Try.func17, Try.ntmps17
  go_wp2_with fail
  obtain ⟨w0, hw0⟩ : ∃ w0, ((w.alloc (.cells #[.int .i64 (pa : Int), .int .i64 (pb : Int), .slice (some ⟨gs, os, none⟩) sl cs] 24)).alloc (.cells #[.int .i64 x0, .int .i64 y0, .int .i64 x1, .int .i64 y1] 40)).alloc (.cells #[.int .i64 0, .int .i64 0, .slice none 0 0] 24) = w0 := ⟨_, rfl⟩
  have q0 : Q w w0 := by rw [← hw0]; exact (((Q.refl w).cells _ _).cells _ _).cells _ _
  have c50 : w0.cell? ⟨w.heap.size, 0, none⟩ = some (.int .i64 (pa : Int)) := by rw [← hw0]; simp [go_sem]
  have c51 : w0.cell? ⟨w.heap.size, 1, none⟩ = some (.int .i64 (pb : Int)) := by rw [← hw0]; simp [go_sem]
  have c52 : w0.cell? ⟨w.heap.size, 2, none⟩ = some (.slice (some ⟨gs, os, none⟩) sl cs) := by rw [← hw0]; simp [go_sem]
  have c90 : w0.cell? ⟨w.heap.size + 1, 0, none⟩ = some (.int .i64 x0) := by rw [← hw0]; simp [go_sem]
  have c91 : w0.cell? ⟨w.heap.size + 1, 1, none⟩ = some (.int .i64 y0) := by rw [← hw0]; simp [go_sem]
  have c92 : w0.cell? ⟨w.heap.size + 1, 2, none⟩ = some (.int .i64 x1) := by rw [← hw0]; simp [go_sem]
  have c93 : w0.cell? ⟨w.heap.size + 1, 3, none⟩ = some (.int .i64 y1) := by rw [← hw0]; simp [go_sem]
  have HR : Hid (w0.cell? ⟨w.heap.size + 1 + 1, 0, none⟩ = some (.int .i64 0) ∧ w0.cell? ⟨w.heap.size + 1 + 1, 1, none⟩ = some (.int .i64 0) ∧ w0.cell? ⟨w.heap.size + 1 + 1, 2, none⟩ = some (.slice none 0 0) ∧ (∀ j, w0.frozen? ⟨w.heap.size + 1 + 1, j, none⟩ = false) ∧ w0.heap.size = w.heap.size + 3) := by
    rw [← hw0]
    exact ⟨by simp [go_sem], by simp [go_sem], by simp [go_sem], fun j => by simp [go_sem], by simp⟩
  rw [hw0]
  have HQ0 : Hid (Q w w0) := q0
  have H5 : Hid (w0.cell? ⟨w.heap.size, 0, none⟩ = some (.int .i64 (pa : Int)) ∧ w0.cell? ⟨w.heap.size, 1, none⟩ = some (.int .i64 (pb : Int)) ∧ w0.cell? ⟨w.heap.size, 2, none⟩ = some (.slice (some ⟨gs, os, none⟩) sl cs)) := ⟨c50, c51, c52⟩
  clear hw0 q0
  refine regionPc (kind := kind) (pa := (pa : Int)) (pb := (pb : Int)) (W := W) (H := H) (x0 := x0) (x1 := x1) (y0 := y0) (y1 := y1) (b5 := w.heap.size) (b9 := w.heap.size + 1) (A := A) (D := D) rfl rfl ⟨rfl, rfl, rfl, rfl, rfl, c50, c51, c90, c91, c92, c93, HK1.out, HK2.out⟩ ?_
  intro w1 bA bD g1 g2 HL
  rw [normPc]
  clear c50 c51 c52 c90 c91 c92 c93 HK1 HK2
  have HB : Hid (LnX w1 (.agg #[.int .i64 (nx : Int), .func (.func 30) #[] #[.pointer (some ⟨bA, 0, none⟩)]]) A ∧ LnX w1 (.agg #[.int .i64 (ny : Int), .func (.func 30) #[] #[.pointer (some ⟨bD, 0, none⟩)]]) D) := by
    have a := HL.a
    have d := HL.d
    rw [HX.out.1] at a
    rw [HX.out.2] at d
    exact ⟨a, d⟩
  have b10 := HL.c10
  have b11 := HL.c11
  have b20 := HL.c20
  have b21 := HL.c21
  rw [HX.out.1] at b10
  rw [HX.out.2] at b20
  rw [HX.out.1, HX.out.2]
  have HB1 : Hid (w1.cell? ⟨g1, 0, none⟩ = some (.int .i64 (nx : Nat)) ∧ w1.cell? ⟨g1, 1, none⟩ = some (.func (.func 30) #[] #[.pointer (some ⟨bA, 0, none⟩)]) ∧ w1.cell? ⟨g2, 0, none⟩ = some (.int .i64 (ny : Nat)) ∧ w1.cell? ⟨g2, 1, none⟩ = some (.func (.func 30) #[] #[.pointer (some ⟨bD, 0, none⟩)]) ∧ Q w0 w1) := ⟨b10, b11, b20, b21, HL.q⟩
  clear HL
  have Cs := span_any _ D pb w1 HB.out.2 (by rw [HX.out.2]; omega) (by omega) (fun L hL => (HD.out L hL).1)
  rw [HX.out.2] at Cs
  have sb := span_bd (fun L hL => (HD.out L hL).1) pb2 ny (by rw [HX.out.2]; exact Nat.le_refl _)
  have si := span_in HD.out ny (by rw [HX.out.2]; exact Nat.le_refl _)
  obtain ⟨f, hf⟩ : ∃ f : Nat, fstS D ny = (f : Int) := ⟨(fstS D ny).toNat, by omega⟩
  obtain ⟨e, he⟩ : ∃ e : Nat, endS D ny = (e : Int) := ⟨(endS D ny).toNat, by omega⟩
  rw [hf, he] at Cs sb si
  have HI : Hid (∀ i L, i < ny → D[i]? = some L → ∀ e_1 ∈ L, (f : Int) ≤ e_1.1 ∧ e_1.1 < (e : Int)) := si
  have hepb : e ≤ pb := by omega
  have hfe : f ≤ e := by
    have hL0 : D[0]? = some (D[0]'(by rw [HX.out.2]; omega)) := List.getElem?_eq_getElem _
    have ok := (HD.out _ (List.mem_of_getElem? hL0)).1
    have hm : (D[0]'(by rw [HX.out.2]; omega))[0]'(by have := ok.one; omega) ∈ D[0]'(by rw [HX.out.2]; omega) := List.getElem_mem _
    have := si 0 _ (by omega) hL0 _ hm
    omega
  obtain ⟨d, hd⟩ : ∃ d, f + d = e := ⟨e - f, by omega⟩
  have ed : (e : Int) - (f : Int) = (d : Int) := by omega
  clear hf he sb si
  go_wp2_with fail
  refine Cs.mono ?_
  rintro e2 w2 ⟨rfl, q2⟩
  clear Cs
  obtain ⟨M, hmk, hF⟩ := make_u32 pb (by omega)
  have hu3 := urow_fill (hF w2)
  have d50 := (HB1.out.2.2.2.2.trans q2).cell H5.out.2.1
  have HB2 : Hid (Q w0 w2 ∧ Q w1 w2) := ⟨HB1.out.2.2.2.2.trans q2, q2⟩
  obtain ⟨w3, hw3⟩ : ∃ w3, w2.alloc (.cells M 31) = w3 := ⟨_, rfl⟩
  have q3 : Q w2 w3 := by rw [← hw3]; exact (Q.refl w2).cells _ _
  have hg3 : w2.heap.size < w3.heap.size := by rw [← hw3]; simp
  rw [hw3] at hu3
  have HU3 : Hid (URow w3 w2.heap.size (List.replicate pb 0) ∧ w2.heap.size < w3.heap.size) := ⟨hu3, hg3⟩
  clear hF q2 hg3 hu3
  go_wp2_with fail
  have x10 := (HB2.out.2.trans q3).cell HB1.out.1
  have x20 := (HB2.out.2.trans q3).cell HB1.out.2.2.1
  have hwn : IntKind.i64.wrap ((nx : Int) * (ny : Int)) = (n : Int) := by
    rw [← Int.natCast_mul, HN.out, IntKind.wrap_i64]; omega
  refine regionPd (nA := nx) (nD := ny) (n := n) (g1 := g1) (g2 := g2) rfl rfl ⟨rfl, rfl, x10, x20, by omega, hwn⟩ ?_
  intro w4 gt g16 HP
  rw [normPd]
  have HT : Hid (∀ (k : Nat) (L : List (Int × Int)), A[k]? = some L → ∃ r1 r2, (∀ W : World, Q w1 W → Calls Try.prog 30 #[.int .i64 (k : Int), .pointer (some ⟨bA, 0, none⟩)] W fun e w' => e = .returned (.agg #[.slice (some ⟨r1, 0, none⟩) L.length L.length, .slice (some ⟨r2, 0, none⟩) L.length L.length]) ∧ Q W w') ∧ BlV w1 (.agg #[.slice (some ⟨r1, 0, none⟩) L.length L.length, .slice (some ⟨r2, 0, none⟩) L.length L.length]) L) := fun k L hk => by
    obtain ⟨b', g', ⟨hv, hbx, hr⟩⟩ := HB.out.1
    have hbb : bA = b' := by
      injection hv with hv
      have := congrArg (fun z : Array Value => z[1]?) hv
      simp at this
      exact this
    subst hbb
    obtain ⟨r1, r2, a1, a2, a3, a4, _⟩ := hr k L hk
    have hkl : k < A.length := (List.getElem?_eq_some_iff.1 hk).1
    have i1 := a3.isl L.length
    have i2 := a4.isl L.length
    rw [List.length_map] at i1 i2
    exact ⟨r1, r2, fun W q => line_tapsE bA g' k A.length L.length L.length r1 r2 W (q.cell hbx) (q.cell a1) (q.cell a2) hkl, ⟨_, _, rfl, i1, i2⟩⟩
  have HP0 : Hid (Pcs w2 w4 w2.heap.size gt g16 nx ny n pb (btwV A S pa f e 0 0) (tolV A D S pa pb nx 0 0)) := by
    have hb := HU3.out.1.next HP.q
    have ht := HP.row
    rw [tabN_zero] at hb ht
    have := HU3.out.2
    have l1 := HP.l1
    have l2 := HP.l2
    have := q3.1.size
    refine Pcs.alike (fb := fun _ => 0) (ft := fun _ => 0) ⟨q3.trans HP.q, hb, ht, HP.c0, HP.c1, HP.c2, Nat.le_refl _, by omega, by omega, by omega, HP.ne⟩ (fun i _ => btw_start _ _ _ _ _ _) (fun i _ => tol_start _ _ _ _ _ _ _)
  have x11 := (HB2.out.2.trans (q3.trans HP.q)).cell HB1.out.2.1
  have y10 := (HB2.out.2.trans (q3.trans HP.q)).cell HB1.out.1
  clear x10 x20 hwn hmk hw3 HU3 d50 HP q3
  go_wp2_with fail
  go_loopg [62] nx (fun gh s62 wr => ∃ k : Nat, s62 = .int .i64 (k : Int) ∧ k ≤ nx ∧ gh = nx - k ∧ Hid (Pcs w2 wr w2.heap.size gt g16 nx ny n pb (btwV A S pa f e k 0) (tolV A D S pa pb nx k 0)))
  case atStart => exact ⟨0, rfl, Nat.zero_le _, rfl, HP0⟩
  case round =>
    clear HP0 x11 y10
    obtain ⟨k, rfl, hk, rfl, HPc⟩ := hrel
    by_cases hlt : k < nx
    · have hltz : (k : Int) < (nx : Int) := by omega
      obtain ⟨L, hLk⟩ : ∃ L, A[k]? = some L := ⟨_, List.getElem?_eq_getElem (by rw [HX.out.1]; exact hlt)⟩
      have HLk : Hid (A[k]? = some L) := hLk
      obtain ⟨r1, r2, hC, hBl⟩ := HT.out k L hLk
      have C := hC wr (HB2.out.2.trans HPc.out.q)
      have HBl : Hid (BlV w1 (.agg #[.slice (some ⟨r1, 0, none⟩) L.length L.length, .slice (some ⟨r2, 0, none⟩) L.length L.length]) L) := hBl
      have x11 := (HB2.out.2.trans HPc.out.q).cell HB1.out.2.1
      obtain ⟨ll, hll⟩ : ∃ ll, L.length = ll := ⟨_, rfl⟩
      rw [hll] at C HBl
      clear hLk hC hBl hll
      go_wp2_with fail
      refine C.mono ?_
      rintro e5 w5 ⟨rfl, q5⟩
      clear C x11
      obtain ⟨w6, hw6⟩ : ∃ w6, w5.alloc (.cells #[.slice (some ⟨r1, 0, none⟩) ll ll, .slice (some ⟨r2, 0, none⟩) ll ll] 64) = w6 := ⟨_, rfl⟩
      have q6 : Q w5 w6 := by rw [← hw6]; exact (Q.refl w5).cells _ _
      have z0 : w6.cell? ⟨w5.heap.size, 0, none⟩ = some (.slice (some ⟨r1, 0, none⟩) ll ll) := by rw [← hw6]; simp [go_sem]
      have z1 : w6.cell? ⟨w5.heap.size, 1, none⟩ = some (.slice (some ⟨r2, 0, none⟩) ll ll) := by rw [← hw6]; simp [go_sem]
      have HP6 : Hid (Pcs w2 w6 w2.heap.size gt g16 nx ny n pb (btwV A S pa f e k 0) (tolV A D S pa pb nx k 0) ∧ w6.cell? ⟨w5.heap.size, 0, none⟩ = some (.slice (some ⟨r1, 0, none⟩) ll ll) ∧ w6.cell? ⟨w5.heap.size, 1, none⟩ = some (.slice (some ⟨r2, 0, none⟩) ll ll)) := ⟨HPc.out.next (q5.trans q6), z0, z1⟩
      have hne5 : w2.heap.size < w5.heap.size := by
        have h1 : w2.heap.size < wr.heap.size := World.block_lt_of_cell? _ _ (HPc.out.bt.cell 0 _ (tabN_at (by omega)))
        have := q5.1.size
        omega
      clear HPc q5 q6 z0 z1
      go_wp2_with fail
      go_loopg [19, 20, 72] d (fun gh s19 s20 s72 wx => ∃ i : Nat, s72 = .int .i64 (i : Int) ∧ i ≤ d ∧ gh = d - i ∧ Hid (Pcs w2 wx w2.heap.size gt g16 nx ny n pb (btwV A S pa f e k i) (tolV A D S pa pb nx k 0) ∧ wx.cell? ⟨w5.heap.size, 0, none⟩ = some (.slice (some ⟨r1, 0, none⟩) ll ll) ∧ wx.cell? ⟨w5.heap.size, 1, none⟩ = some (.slice (some ⟨r2, 0, none⟩) ll ll)))
      case atStart => exact ⟨0, rfl, Nat.zero_le _, rfl, HP6⟩
      case round =>
        clear HP6 hw6
        obtain ⟨i, rfl, hi, rfl, HPi⟩ := hrel
        by_cases hid : i < d
        · have hidz : (i : Int) < (d : Int) := by omega
          obtain ⟨y, hy⟩ : ∃ y, f + i = y := ⟨_, rfl⟩
          have eyz : (f : Int) + (i : Int) = (y : Int) := by omega
          have hypb : y < pb := by omega
          have hyz : (y : Int) < (pb : Int) := by omega
          obtain ⟨ya, hya⟩ : ∃ ya, y * pa = ya := ⟨_, rfl⟩
          have eya : (y : Int) * (pa : Int) = (ya : Int) := by rw [← Int.natCast_mul, hya]
          have hyal : ya + pa ≤ sl := by
            have h1 : (y + 1) * pa ≤ pb * pa := Nat.mul_le_mul_right _ hypb
            rw [Nat.succ_mul, hya] at h1
            rw [← HSl.out, HU.out.2.2.1, Nat.mul_comm]
            exact h1
          have hslb : sl ≤ 65536 := by rw [← HSl.out, HU.out.2.2.1]; exact HSz.out.ab
          have hscs : sl ≤ cs := by rw [← HSl.out]; exact HU.out.2.1
          have wya : IntKind.i64.wrap (ya : Int) = (ya : Int) := by rw [IntKind.wrap_i64]; omega
          have qx := HPi.out.1.q
          have c50 := (HB2.out.1.trans qx).cell H5.out.1
          have c52 := (HB2.out.1.trans qx).cell H5.out.2.2
          have z0 := HPi.out.2.1
          have z1 := HPi.out.2.2
          have hLm := HA.out L (List.mem_of_getElem? HLk.out)
          have HCb : Hid (∀ W : World, Q wr W → Calls Try.prog 27 #[.agg #[.slice (some ⟨r1, 0, none⟩) ll ll, .slice (some ⟨r2, 0, none⟩) ll ll], .slice (some ⟨gs, os + ya, none⟩) (sl - ya) (cs - ya)] W fun e w' => e = .returned (.int .u32 (colV (A.getD k []) S pa y : Nat)) ∧ Q W w') := fun W qW => by
            have hlen : (S.drop ya).length = sl - ya := by rw [List.length_drop, HSl.out]
            have := blend_of (.agg #[.slice (some ⟨r1, 0, none⟩) ll ll, .slice (some ⟨r2, 0, none⟩) ll ll]) (.slice (some ⟨gs, os + ya, none⟩) (sl - ya) (cs - ya)) L (S.drop ya) W (HBl.out.next (HB2.out.2.trans (qx.trans qW))) ((usl_drop HU.out.1 HSl.out HU.out.2.1 (by omega)).next (HQ0.out.trans (HB2.out.1.trans (qx.trans qW)))) hLm.few (by rw [hlen]; omega) (drop_bd HU.out.2.2.2 ya) (fun e he => by have := hLm.pl e he; rw [hlen]; omega) hLm.wt
            have e1 : smpV L (S.drop ya) = colV (A.getD k []) S pa y := by
              unfold colV
              rw [hya, List.getD_eq_getElem?_getD, HLk.out]; rfl
            rw [e1] at this
            exact this
          obtain ⟨cv, hcv⟩ : ∃ cv, colV (A.getD k []) S pa y = cv := ⟨_, rfl⟩
          rw [hcv] at HCb
          have HCV : Hid (cv = btwV A S pa f e k (i + 1) y) := by
            show cv = _
            rw [← hcv, ← hy]; exact btw_new
          have HY : Hid (f + i = y) := hy
          have n0 := qw_some wr
          have f0 := qw_cell c50
          have f1 := qw_cell c52
          have f2 := qw_cell z0
          have f3 := qw_cell z1
          clear c50 c52 z0 z1 hLm hcv hya hy
          go_wp2_with fail
          refine wp_region_mk [0, 1, 2, 3, 4, 5, 6, 7, 8] [[9, 10, 11, 12]] 4 _ (by kernel_rfl) (by kernel_rfl) rfl (by kernel_rfl) ?_
          simp only [List.filterMap_cons, List.filterMap_nil, List.getElem?_cons_zero, List.getElem?_cons_succ]
          repeat (first | go_big_quiet_step (fail) | quiet_step (fail))
          refine wpQuiet_nil ?_
          intro x5 hx5
          clear f0 f1 f2 f3 n0
          refine treeA_run 9 (by kernel_rfl) rfl (v := .slice (some ⟨gs, os + ya, none⟩) (sl - ya) (cs - ya)) (x' := x5) (run_slice_from (nn := sl) (cc := cs) (by kernel_rfl) (by kernel_rfl) (by omega) hscs) (Or.inr hx5) ?_
          refine treeA_call 10 (by kernel_rfl) rfl (run_fn 27 #[.tmp 80, .tmp 87] _ rfl (fun _ _ => rfl) (vs := #[.agg #[.slice (some ⟨r1, 0, none⟩) ll ll, .slice (some ⟨r2, 0, none⟩) ll ll], .slice (some ⟨gs, os + ya, none⟩) (sl - ya) (cs - ya)]) (by kernel_rfl)) (G := fun v x' => v = .int .u32 (cv : Nat) ∧ Q x5 x') ((HCb.out x5 hx5).mono fun e x' h => ⟨_, h.1, rfl, h.2⟩) ?_
          rintro vq x6 ⟨rfl, q6⟩
          have q56 : Q wr x6 := hx5.trans q6
          have HP7 := HPi.out.1.next q56
          have u6 := HP7.bt.cell y _ (tabN_at hypb)
          have fu6 := HP7.bt.free y
          have HP8 : Hid (Pcs w2 (x6.setCell ⟨w2.heap.size, y, none⟩ (.int .u32 (cv : Nat))) w2.heap.size gt g16 nx ny n pb (btwV A S pa f e k (i + 1)) (tolV A D S pa pb nx k 0) ∧ (x6.setCell ⟨w2.heap.size, y, none⟩ (.int .u32 (cv : Nat))).cell? ⟨w5.heap.size, 0, none⟩ = some (.slice (some ⟨r1, 0, none⟩) ll ll) ∧ (x6.setCell ⟨w2.heap.size, y, none⟩ (.int .u32 (cv : Nat))).cell? ⟨w5.heap.size, 1, none⟩ = some (.slice (some ⟨r2, 0, none⟩) ll ll)) := by
            refine ⟨HP7.setb hypb HCV.out (fun j hj => btw_old (by rw [HY.out]; exact hj)), ?_, ?_⟩
            · rw [World.cell?_setCell_other _ _ _ _ (fun e => by injection e with e; omega)]; exact q56.cell HPi.out.2.1
            · rw [World.cell?_setCell_other _ _ _ _ (fun e => by injection e with e; omega)]; exact q56.cell HPi.out.2.2
          refine ⟨q56, ?_⟩
          refine treeA_run 11 (by kernel_rfl) rfl (v := .pointer (some ⟨w2.heap.size, y, none⟩)) (x' := x6) (run_ixu (Lw := pb) (cap := pb) (by kernel_rfl) (by kernel_rfl) hypb) (Or.inr q56) ?_
          refine treeA_skip 12 (by kernel_rfl) rfl (x' := x6.setCell ⟨w2.heap.size, y, none⟩ (.int .u32 (cv : Nat))) (run_stu (i := y) (by kernel_rfl) (by kernel_rfl) u6 fu6) (Or.inl (by kernel_rfl)) ?_
          refine tree_nil ?_
          clear HP7 u6 fu6 hx5 q6 q56 HPi HCb qx
          generalize x6.setCell ⟨w2.heap.size, y, none⟩ (.int .u32 (cv : Nat)) = w9 at HP8 ⊢
          go_wp2_with fail
          go_roundg (d - (i + 1))
          case measure => go_light; omega
          case rel => go_light; exact ⟨i + 1, by simp, by omega, rfl, HP8⟩
        · have hge : ¬ (i : Int) < (d : Int) := by omega
          obtain rfl : i = d := by omega
          have qx := HPi.out.1.q
          have HPj : Hid (Pcs w2 wr w2.heap.size gt g16 nx ny n pb (btwV A S pa f e k i) (tolV A D S pa pb nx k 0)) := HPi.out.1
          have lnD := HB.out.2.next (HB2.out.2.trans qx)
          have us : USl wr (.slice (some ⟨w2.heap.size, 0, none⟩) pb pb) (tabN pb (btwV A S pa f e k i)) := by
            have := HPi.out.1.bt.uis.usl (cap := pb) (by rw [tabN_len]; exact Nat.le_refl _)
            rw [tabN_len] at this
            exact this
          have Cl := line_of _ (.slice (some ⟨w2.heap.size, 0, none⟩) pb pb) D (tabN pb (btwV A S pa f e k i)) wr lnD us (by rw [HX.out.2]; omega) (by rw [tabN_len]; omega) (fun j => by
            by_cases hj : j < pb
            · rw [tabN_getD hj]
              exact btw_lt HU.out.2.2.2 j
            · rw [List.getD_eq_getElem?_getD, List.getElem?_eq_none (by rw [tabN_len]; omega)]; show 0 < 4294967296; decide) (fun L' hL' => by rw [tabN_len]; exact (HD.out L' hL').1)
          rw [HX.out.2] at Cl
          have x20 := (HB2.out.2.trans qx).cell HB1.out.2.2.1
          have x21 := (HB2.out.2.trans qx).cell HB1.out.2.2.2.1
          clear HPi lnD us
          go_wp2_with fail
          refine Cl.mono ?_
          rintro e7 w7 ⟨b7, rfl, o7⟩
          have HO7 : Hid (UIs w7 b7 0 (D.map fun L => smpV L (tabN pb (btwV A S pa f e k i))) ∧ wr.heap.size ≤ b7) := ⟨o7.cells, o7.new⟩
          have HP7 : Hid (Pcs w2 w7 w2.heap.size gt g16 nx ny n pb (btwV A S pa f e k i) (tolV A D S pa pb nx k 0)) := HPj.out.next o7.q
          have hgt7 : gt ≠ b7 := by
            have h1 : gt < wr.heap.size := World.block_lt_of_cell? _ _ (HPj.out.tl.cell 0 _ (tabN_at (by have := HN.out; rw [← this]; exact Nat.mul_pos hx1 hy1)))
            have := o7.new
            omega
          clear Cl o7 HPj x20 x21 qx
          go_wp2_with fail
          go_loopg [21, 22, 95] ny (fun gh s21 s22 s95 wx => ∃ j : Nat, s95 = .int .i64 (j : Int) ∧ j ≤ ny ∧ gh = ny - j ∧ Hid (Pcs w2 wx w2.heap.size gt g16 nx ny n pb (btwV A S pa f e k i) (tolV A D S pa pb nx k j) ∧ UIs wx b7 0 (D.map fun L => smpV L (tabN pb (btwV A S pa f e k i)))))
          case atStart => exact ⟨0, rfl, Nat.zero_le _, rfl, ⟨HP7.out, HO7.out.1⟩⟩
          case round =>
            clear HP7
            obtain ⟨j, rfl, hj, rfl, HPj⟩ := hrel
            by_cases hjy : j < ny
            · have hjyz : (j : Int) < (ny : Int) := by omega
              obtain ⟨L', hL'⟩ : ∃ L', D[j]? = some L' := ⟨_, List.getElem?_eq_getElem (by rw [HX.out.2]; exact hjy)⟩
              have c7a := HPj.out.2 j (by rw [List.length_map, HX.out.2]; exact hjy)
              rw [List.getD_eq_getElem?_getD, List.getElem?_map, hL', Nat.zero_add] at c7a
              have hpv : smpV L' (tabN pb (btwV A S pa f e k i)) = pieceV A D S pa pb k j := piece_at hd hepb hL' (HI.out j L' hjy hL')
              have c7 : wr.cell? ⟨b7, j, none⟩ = some (.int .u32 (pieceV A D S pa pb k j : Nat)) := by rw [← hpv]; exact c7a
              clear c7a
              obtain ⟨pv, hpve⟩ : ∃ pv, pieceV A D S pa pb k j = pv := ⟨_, rfl⟩
              rw [hpve] at c7
              obtain ⟨jx, hjx⟩ : ∃ jx, j * nx = jx := ⟨_, rfl⟩
              have ejx : (j : Int) * (nx : Int) = (jx : Int) := by rw [← Int.natCast_mul, hjx]
              have hin : jx + k < n := by rw [← HN.out, ← hjx]; exact place_lt hlt hjy
              obtain ⟨ix, hix⟩ : ∃ ix, jx + k = ix := ⟨_, rfl⟩
              have eix : (jx : Int) + (k : Int) = (ix : Int) := by omega
              have hixn : ix < n := by omega
              have hixz : (ix : Int) < (n : Int) := by omega
              have p0 := HPj.out.1.c0
              have p2 := HPj.out.1.c2
              have u9 := HPj.out.1.tl.cell ix _ (tabN_at hixn)
              have fu9 := HPj.out.1.tl.free ix
              have hjxb : jx ≤ 1048576 := by omega
              have HP9 : Hid (Pcs w2 (wr.setCell ⟨gt, ix, none⟩ (.int .u32 (pv : Nat))) w2.heap.size gt g16 nx ny n pb (btwV A S pa f e k i) (tolV A D S pa pb nx k (j + 1)) ∧ UIs (wr.setCell ⟨gt, ix, none⟩ (.int .u32 (pv : Nat))) b7 0 (D.map fun L => smpV L (tabN pb (btwV A S pa f e k i)))) := by
                refine ⟨HPj.out.1.sett hixn (by rw [← hpve, ← hix, ← hjx]; exact tol_new hlt) (fun m hm => tol_old hlt (by rw [hjx, hix]; exact hm)), fun m hm => ?_⟩
                rw [World.cell?_setCell_other _ _ _ _ (fun e => hgt7 (by injection e))]
                exact HPj.out.2 m hm
              obtain ⟨ov, hov⟩ : ∃ ov, tolV A D S pa pb nx k j ix = ov := ⟨_, rfl⟩
              rw [hov] at u9
              clear hL' hpv hpve hjx hix HPj hov
              go_wp2_with fail
              generalize wr.setCell ⟨gt, ix, none⟩ (.int .u32 (pv : Nat)) = w9 at HP9 ⊢
              go_roundg (ny - (j + 1))
              case measure => go_light; omega
              case rel => go_light; exact ⟨j + 1, by simp, by omega, rfl, HP9⟩
            · have hgej : ¬ (j : Int) < (ny : Int) := by omega
              obtain rfl : j = ny := by omega
              have HP9 : Hid (Pcs w2 wr w2.heap.size gt g16 nx j n pb (btwV A S pa f e (k + 1) 0) (tolV A D S pa pb nx (k + 1) 0)) := HPj.out.1.alike (fun m _ => (btw_end hd).symm) (fun m hm => (tol_end (by rw [HN.out]; exact hm)).symm)
              clear HPj
              go_wp2_with fail
              go_roundg (nx - (k + 1))
              case measure => go_light; omega
              case rel => go_light; exact ⟨k + 1, by simp, by omega, rfl, HP9⟩
    · have hgek : ¬ (k : Int) < (nx : Int) := by omega
      obtain rfl : k = nx := by omega
      have p0 := HPc.out.c0
      have p1 := HPc.out.c1
      have p2 := HPc.out.c2
      have qx := HPc.out.q
      have o0 := (HB2.out.1.trans qx).cell HR.out.1
      have o1 := (HB2.out.1.trans qx).cell HR.out.2.1
      have o2 := (HB2.out.1.trans qx).cell HR.out.2.2.1
      have fo : ∀ j, wr.frozen? ⟨w.heap.size + 1 + 1, j, none⟩ = false := fun j => by rw [(HB2.out.1.trans qx).2]; exact HR.out.2.2.2.1 j
      have fo0 := fo 0
      have fo1 := fo 1
      have fo2 := fo 2
      have hgt : w.heap.size + 1 + 1 ≠ gt := by
        have := HPc.out.l2
        have := HB2.out.1.1.size
        have := HR.out.2.2.2.2
        omega
      obtain ⟨w9, hw9⟩ : ∃ w9, ((wr.setCell ⟨w.heap.size + 1 + 1, 0, none⟩ (.int .i64 (k : Int))).setCell ⟨w.heap.size + 1 + 1, 1, none⟩ (.int .i64 (ny : Int))).setCell ⟨w.heap.size + 1 + 1, 2, none⟩ (.slice (some ⟨gt, 0, none⟩) n n) = w9 := ⟨_, rfl⟩
      have HW : Hid (URow w9 gt (tabN n fun i => pieceV A D S pa pb (i % k) (i / k)) ∧ Q w w9 ∧ w.heap.size ≤ gt) := by
        refine ⟨?_, ?_, ?_⟩
        · rw [← hw9]
          have := ((HPc.out.tl.other (p := ⟨w.heap.size + 1 + 1, 0, none⟩) hgt (.int .i64 (k : Int))).other (p := ⟨w.heap.size + 1 + 1, 1, none⟩) hgt (.int .i64 (ny : Int))).other (p := ⟨w.heap.size + 1 + 1, 2, none⟩) hgt (.slice (some ⟨gt, 0, none⟩) n n)
          rw [tabN_congr (g := fun i => pieceV A D S pa pb (i % k) (i / k)) (fun i hi => tol_all (ny := ny) (by rw [HN.out]; exact hi))] at this
          exact this
        · rw [← hw9]
          have hl : w.heap.size ≤ w.heap.size + 1 + 1 := by omega
          exact (((HQ0.out.trans (HB2.out.1.trans qx)).set hl _).set hl _).set hl _
        · have := HPc.out.l2
          have := (HQ0.out.trans HB2.out.1).1.size
          omega
      have v0 : w9.cell? ⟨w.heap.size + 1 + 1, 0, none⟩ = some (.int .i64 (k : Int)) := by
        rw [← hw9, World.cell?_setCell_other _ _ _ _ (fun e => by injection e with _ e; cases e), World.cell?_setCell_other _ _ _ _ (fun e => by injection e with _ e; cases e)]; exact World.cell?_setCell_same _ _ _ o0
      have v1 : w9.cell? ⟨w.heap.size + 1 + 1, 1, none⟩ = some (.int .i64 (ny : Int)) := by
        rw [← hw9, World.cell?_setCell_other _ _ _ _ (fun e => by injection e with _ e; cases e)]; exact World.cell?_setCell_same _ _ _ ((World.cell?_setCell_other _ _ _ _ (fun e => by injection e with _ e; cases e)).trans o1)
      have v2 : w9.cell? ⟨w.heap.size + 1 + 1, 2, none⟩ = some (.slice (some ⟨gt, 0, none⟩) n n) := by
        rw [← hw9]; exact World.cell?_setCell_same _ _ _ ((World.cell?_setCell_other _ _ _ _ (fun e => by injection e with _ e; cases e)).trans ((World.cell?_setCell_other _ _ _ _ (fun e => by injection e with _ e; cases e)).trans o2))
      have HW9 : Hid (((wr.setCell ⟨w.heap.size + 1 + 1, 0, none⟩ (.int .i64 (k : Int))).setCell ⟨w.heap.size + 1 + 1, 1, none⟩ (.int .i64 (ny : Int))).setCell ⟨w.heap.size + 1 + 1, 2, none⟩ (.slice (some ⟨gt, 0, none⟩) n n) = w9) := hw9
      clear fo HPc qx hw9
      go_wp2_with fail
      rw [HW9.out]
      exact bodyPost_ret (v := .agg #[.int .i64 (k : Int), .int .i64 (ny : Int), .slice (some ⟨gt, 0, none⟩) n n]) (by simp [results, Try.results17, go_sem, v0, v1, v2]) rfl ⟨gt, rfl, HW.out.1, HW.out.2.2, HW.out.2.1⟩
end Go.Proofs.Ytcolhgngiflkhaa
