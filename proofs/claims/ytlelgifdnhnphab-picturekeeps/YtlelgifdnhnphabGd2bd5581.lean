/- What package arith's Fma returns of whatever samples: the exact product and sum, rounded once. -/
import Derived.Test.YtlelgifdnhnphabG1802607f
namespace Go.Proofs.Ytlelgifdnhnphab
open Go.RowKit

/-- The exact number of a product and a sum. -/
def fmaD (a b c : Nat) : Option Ieee.Datum := ((Ieee.single.read a).product (Ieee.single.read b)).bind fun d => d.sum (Ieee.single.read c)

theorem wide_read_inf {a : Nat} (h : rung32 a = 2139095040) : Ieee.double.read (wideN a) = .infinity (sgn32 a) := by rw [wide_inf h, read_winf64]
theorem fin_num {a : Nat} (h : rung32 a < 2139095040) : nanN a = false := by rw [nanN_rung]; exact decide_eq_false (by omega)
theorem inf_num {a : Nat} (h : rung32 a = 2139095040) : nanN a = false := by rw [nanN_rung]; exact decide_eq_false (by omega)
theorem wide_mag_zero {a : Nat} (h : rung32 a < 2139095040) : mag64 (rung64 (wideN a)) = 0 ↔ mag32 (rung32 a) = 0 := by
  obtain ⟨r, s, v⟩ := wide_fin h
  have e := val_abs (wideN a)
  rw [v] at e
  unfold sampleZ val64 at e
  rw [signed_abs] at e
  have p1 := Nat.two_pow_pos (plc32 (rung32 a) + 925)
  have p2 := Nat.two_pow_pos (plc64 (rung64 (wideN a)))
  constructor
  · intro h0
    rw [h0, Nat.zero_mul] at e
    rcases Nat.mul_eq_zero.1 e with k | k
    · exact k
    · omega
  · intro h0
    rw [h0, Nat.zero_mul] at e
    rcases Nat.mul_eq_zero.1 e.symm with k | k
    · exact k
    · omega

/-- All three finite. -/
theorem fma_fin {a b c : Nat} (ha : rung32 a < 2139095040) (hb : rung32 b < 2139095040) (hc : rung32 c < 2139095040) (w : World) :
    Calls Try.prog 33 #[.int .u32 (a : Int), .int .u32 (b : Int), .int .u32 (c : Int)] w fun e w' => e = .returned (.int .u32 (toldD (fmaD a b c) : Nat)) ∧ Q w w' := by
  have pa := plc_le32 ha
  have pb := plc_le32 hb
  have pc := plc_le32 hc
  have hm := prod_lt a b
  have hmc := mag_lt32 (rung32 c)
  obtain ⟨rp, sp, vp⟩ := units_word (s := sgn32 a ^^ sgn32 b) (m := mag32 (rung32 a) * mag32 (rung32 b)) (k := plc32 (rung32 a) + plc32 (rung32 b) + 776) (by omega) (by omega)
  obtain ⟨rc, sc, vc⟩ := wide_fin hc
  have hmul := prod_units ha hb
  obtain ⟨P, hP⟩ : ∃ P, P = wordOf (sgn32 a ^^ sgn32 b) (prodZ a b) := ⟨_, rfl⟩
  have vP : sval64 P = prodZ a b := by rw [hP]; exact vp
  have rP : rung64 P < 9218868437227405312 := by rw [hP]; exact rp
  have sP : sgn64 P = (sgn32 a ^^ sgn32 b) := by rw [hP]; exact sp
  rw [← hP] at hmul
  obtain ⟨Z, hZ⟩ : ∃ Z, Z = prodZ a b + sampleZ c := ⟨_, rfl⟩
  have bX : (prodZ a b).natAbs < 2 ^ capJ := by unfold prodZ; rw [signed_abs]; exact cap_units hm (by omega)
  have bY : (sampleZ c).natAbs < 2 ^ capJ := by unfold sampleZ; rw [signed_abs]; exact cap_units (e := 24) (by omega) (by omega)
  have lZ : Z.natAbs.log2 ≤ 2000 := cap_log (by rw [hZ]; omega)
  have hadd := add_fin rP rc
  rw [sP, sc, vP, vc, ← hZ] at hadd
  obtain ⟨σ, hσ⟩ : ∃ σ, σ = sg (sgn32 a ^^ sgn32 b) (sgn32 c) Z := ⟨_, rfl⟩
  rw [← hσ] at hadd
  have hσ' : Z ≠ 0 → σ = decide (Z < 0) := fun h => by rw [hσ]; exact sg_of h
  obtain ⟨f1, f2, f3, f4⟩ := wordOf_facts (σ := σ) lZ hσ'
  -- the units of both
  obtain ⟨g, hg⟩ : ∃ g, g = min (plc32 (rung32 a) + plc32 (rung32 b) + 776) (plc32 (rung32 c) + 925) := ⟨_, rfl⟩
  have dX : ((2 ^ g : Nat) : Int) ∣ sval64 P := by rw [vP]; exact signed_dvd _ _ (by omega)
  have dY : ((2 ^ g : Nat) : Int) ∣ sval64 (wideN c) := by rw [vc]; exact signed_dvd _ _ (by omega)
  have hsmall : ab (sval64 P) < 2 ^ (48 + g) ∨ ab (sval64 (wideN c)) < 2 ^ (48 + g) := by
    rcases Nat.le_total (plc32 (rung32 a) + plc32 (rung32 b) + 776) (plc32 (rung32 c) + 925) with k | k
    · left
      rw [vP]
      show (prodZ a b).natAbs < _
      unfold prodZ
      rw [signed_abs, show plc32 (rung32 a) + plc32 (rung32 b) + 776 = g by omega]
      have h := Nat.mul_lt_mul_of_pos_right hm (Nat.two_pow_pos g)
      rw [← Nat.pow_add] at h
      exact h
    · right
      rw [vc]
      show (sampleZ c).natAbs < _
      unfold sampleZ
      rw [signed_abs, show plc32 (rung32 c) + 925 = g by omega]
      have h := Nat.mul_lt_mul_of_pos_right (show mag32 (rung32 c) < 2 ^ 48 by omega) (Nat.two_pow_pos g)
      rw [← Nat.pow_add] at h
      exact h
  have hS : sval64 (wordOf σ Z) = RN (sval64 P + sval64 (wideN c)) := by rw [f4, vP, vc, hZ]
  obtain ⟨p, q, t, u, l, k1, k2, k3, k4, k5, vl, rl⟩ := lost_words (B := 2 ^ capJ) (fun n h => cap_log h) rP rc f3 (by rw [vP]; exact bX) (by rw [vc]; exact bY) dX dY hsmall hS
  rw [vP, vc, ← hZ, f4] at vl
  have hln : nan64 l = false := by rw [nan64_rung]; exact decide_eq_false (by omega)
  have hs0 : rung64 l = 0 ∨ 0 < wordOf σ Z := by
    by_cases h : Z = 0
    · left; rw [← sval_zero, vl, h, RN_zero]; rfl
    · right
      unfold wordOf
      rw [word64, rung64_eq lZ]
      have := rung_pos (M := Z.natAbs) (by omega)
      omega
  have hlt : wordOf σ Z < 18446744073709551615 := by
    unfold wordOf at f1 f3 ⊢
    rw [f1] at f3
    rw [word64]
    have := Bool.toNat_lt σ
    omega
  have hO := fun w => odd_fin P (wideN c) (wordOf σ Z) l hlt hs0 hln hadd (fun w => lost_fin P (wideN c) (wordOf σ Z) p q t u l k1 k2 k3 k4 k5 w) w
  have hF := cfma_odd a b c P (oddV (wordOf σ Z) l) (fin_num ha) (fin_num hb) (fin_num hc) hmul hO w
  have hval : toldD (some (Ieee.double.read (oddV (wordOf σ Z) l))) = Ieee.single.word σ (rungOf Ieee.single Z.natAbs (-1074)) := by
    by_cases h : Z = 0
    · have e1 : oddV (wordOf σ Z) l = Ieee.double.word σ 0 := by
        have hl0 : rung64 l = 0 := by rw [← sval_zero, vl, h, RN_zero]; rfl
        unfold oddV
        rw [if_pos (Or.inr hl0)]
        unfold wordOf
        rw [h, show (0 : Int).natAbs = 0 from rfl, rungOf_zero]
      rw [e1, read_word64, toldD_num, rungOf_zero, h, show (0 : Int).natAbs = 0 from rfl, rungOf_zero]
    · obtain ⟨R, e1, e2, e3⟩ := odd_word lZ h (hσ' h) rl vl
      rw [e1]
      obtain ⟨a1, a2⟩ := sgn_word64 σ (r := R) (by omega)
      rw [read_fin64 (by rw [a2]; exact e2), a1, a2, toldD_num, rung_word64, e3]
  have htold : toldD (fmaD a b c) = Ieee.single.word σ (rungOf Ieee.single Z.natAbs (-1074)) := by
    unfold fmaD
    rw [read_fin32 ha, read_fin32 hb, read_fin32 hc]
    obtain ⟨N, bb, e1, e2⟩ := sum_units (sgn32 a ^^ sgn32 b) (sgn32 c) (mag32 (rung32 a) * mag32 (rung32 b)) (mag32 (rung32 c)) (-149 + (plc32 (rung32 a) : Int) + (-149 + (plc32 (rung32 b) : Int))) (-149 + (plc32 (rung32 c) : Int)) (by omega) (by omega)
    have e3 : Ieee.signed (sgn32 a ^^ sgn32 b) (mag32 (rung32 a) * mag32 (rung32 b)) (-149 + (plc32 (rung32 a) : Int) + (-149 + (plc32 (rung32 b) : Int)) + 1074).toNat + Ieee.signed (sgn32 c) (mag32 (rung32 c)) (-149 + (plc32 (rung32 c) : Int) + 1074).toNat = Z := by
      rw [hZ]; unfold prodZ sampleZ
      rw [show (-149 + (plc32 (rung32 a) : Int) + (-149 + (plc32 (rung32 b) : Int)) + 1074).toNat = plc32 (rung32 a) + plc32 (rung32 b) + 776 by omega, show (-149 + (plc32 (rung32 c) : Int) + 1074).toNat = plc32 (rung32 c) + 925 by omega]
    rw [e3] at e1 e2
    show toldD ((Ieee.Datum.number (sgn32 a ^^ sgn32 b) (mag32 (rung32 a) * mag32 (rung32 b)) (-149 + (plc32 (rung32 a) : Int) + (-149 + (plc32 (rung32 b) : Int)))).sum (.number (sgn32 c) (mag32 (rung32 c)) (-149 + (plc32 (rung32 c) : Int)))) = _
    rw [e1, toldD_num, e2, hσ]
  rw [htold, ← hval]
  exact hF

theorem told_inf (σ : Bool) : toldD (some (Ieee.double.read (Ieee.double.word σ 9218868437227405312))) = Ieee.single.word σ 2139095040 := by
  rw [read_winf64]
  show Ieee.single.word σ Ieee.single.infRung = _
  rw [inf32]
theorem inf_even (σ : Bool) : Ieee.double.word σ 9218868437227405312 % 2 = 0 ∧ Ieee.double.word σ 9218868437227405312 < 18446744073709551616 := by
  rw [word64]; have := Bool.toNat_lt σ; omega
theorem sub_inf_inf (σ : Bool) : floatBits .sub .f64 (Ieee.double.word σ 9218868437227405312) (Ieee.double.word σ 9218868437227405312) = none := by
  show ((Ieee.double.read _).sum (Ieee.double.read _).opposite).map _ = none
  rw [read_winf64]
  cases σ <;> rfl
theorem write_inf (σ : Bool) : Ieee.double.write (.infinity σ) = Ieee.double.word σ 9218868437227405312 := by
  show Ieee.double.word σ Ieee.double.infRung = _
  rw [inf64]

/-- An infinite product. -/
theorem fma_pinf {a b c : Nat} {σ : Bool} (ha : nanN a = false) (hb : nanN b = false) (hc : nanN c = false) (hm : floatBits .mul .f64 (wideN a) (wideN b) = some (Ieee.double.word σ 9218868437227405312))
    (hp : (Ieee.single.read a).product (Ieee.single.read b) = some (.infinity σ)) (w : World) :
    Calls Try.prog 33 #[.int .u32 (a : Int), .int .u32 (b : Int), .int .u32 (c : Int)] w fun e w' => e = .returned (.int .u32 (toldD (fmaD a b c) : Nat)) ∧ Q w w' := by
  have hc' := hc
  rw [nanN_rung] at hc'
  have hc' := of_decide_eq_false hc'
  have key : ∀ (hs : floatBits .add .f64 (Ieee.double.word σ 9218868437227405312) (wideN c) = some (Ieee.double.word σ 9218868437227405312)) (ht : (Ieee.Datum.infinity σ).sum (Ieee.single.read c) = some (.infinity σ)),
      Calls Try.prog 33 #[.int .u32 (a : Int), .int .u32 (b : Int), .int .u32 (c : Int)] w fun e w' => e = .returned (.int .u32 (toldD (fmaD a b c) : Nat)) ∧ Q w w' := by
    intro hs ht
    have e : toldD (fmaD a b c) = toldD (some (Ieee.double.read (Ieee.double.word σ 9218868437227405312))) := by
      unfold fmaD; rw [hp, told_inf]
      show toldD ((Ieee.Datum.infinity σ).sum (Ieee.single.read c)) = _
      rw [ht]
      show Ieee.single.word σ Ieee.single.infRung = _
      rw [inf32]
    rw [e]
    exact cfma_odd a b c _ _ ha hb hc hm (fun w => odd_inf _ _ _ (inf_even σ).2 (inf_even σ).1 hs (fun w => lost_inf1 _ _ _ (sub_inf_inf σ) w) w) w
  rcases Nat.lt_or_ge (rung32 c) 2139095040 with g | g
  · refine key ?_ ?_
    · show ((Ieee.double.read _).sum (Ieee.double.read _)).map _ = _
      rw [read_winf64, read_fin64 (wide_fin g).1]
      show some (Ieee.double.write (.infinity σ)) = _
      rw [write_inf]
    · rw [read_fin32 g]; rfl
  · by_cases h : σ = sgn32 c
    · refine key ?_ ?_
      · show ((Ieee.double.read _).sum (Ieee.double.read _)).map _ = _
        rw [read_winf64, wide_read_inf (by omega), ← h]
        show (if σ = σ then some (Ieee.Datum.infinity σ) else none).map Ieee.double.write = _
        rw [if_pos rfl]
        show some (Ieee.double.write (.infinity σ)) = _
        rw [write_inf]
      · rw [read_inf32 (by omega), ← h]
        show (if σ = σ then some (Ieee.Datum.infinity σ) else none) = _
        rw [if_pos rfl]
    · have hn : floatBits .add .f64 (Ieee.double.word σ 9218868437227405312) (wideN c) = none := by
        show ((Ieee.double.read _).sum (Ieee.double.read _)).map _ = _
        rw [read_winf64, wide_read_inf (by omega)]
        show (if σ = sgn32 c then some (Ieee.Datum.infinity σ) else none).map Ieee.double.write = _
        rw [if_neg h]; rfl
      have e : toldD (fmaD a b c) = 2143289344 := by
        unfold fmaD; rw [hp]
        show toldD ((Ieee.Datum.infinity σ).sum (Ieee.single.read c)) = _
        rw [read_inf32 (by omega)]
        show toldD (if σ = sgn32 c then some (Ieee.Datum.infinity σ) else none) = _
        rw [if_neg h]; rfl
      rw [e]
      exact cfma_nan a b c (Or.inr (Or.inr (Or.inr (Or.inr ⟨_, hm, hn⟩)))) w

/-- A product without an answer. -/
theorem fma_pnone {a b c : Nat} (hm : floatBits .mul .f64 (wideN a) (wideN b) = none) (hp : (Ieee.single.read a).product (Ieee.single.read b) = none) (w : World) :
    Calls Try.prog 33 #[.int .u32 (a : Int), .int .u32 (b : Int), .int .u32 (c : Int)] w fun e w' => e = .returned (.int .u32 (toldD (fmaD a b c) : Nat)) ∧ Q w w' := by
  have e : toldD (fmaD a b c) = 2143289344 := by unfold fmaD; rw [hp]; rfl
  rw [e]
  exact cfma_nan a b c (Or.inr (Or.inr (Or.inr (Or.inl hm)))) w

/-- A finite product and an infinity. -/
theorem fma_cinf {a b c : Nat} (ha : rung32 a < 2139095040) (hb : rung32 b < 2139095040) (hc : rung32 c = 2139095040) (w : World) :
    Calls Try.prog 33 #[.int .u32 (a : Int), .int .u32 (b : Int), .int .u32 (c : Int)] w fun e w' => e = .returned (.int .u32 (toldD (fmaD a b c) : Nat)) ∧ Q w w' := by
  have pa := plc_le32 ha
  have pb := plc_le32 hb
  have hm := prod_lt a b
  obtain ⟨rp, sp, vp⟩ := units_word (s := sgn32 a ^^ sgn32 b) (m := mag32 (rung32 a) * mag32 (rung32 b)) (k := plc32 (rung32 a) + plc32 (rung32 b) + 776) (by omega) (by omega)
  have hmul := prod_units ha hb
  obtain ⟨P, hP⟩ : ∃ P, P = wordOf (sgn32 a ^^ sgn32 b) (prodZ a b) := ⟨_, rfl⟩
  have rP : rung64 P < 9218868437227405312 := by rw [hP]; exact rp
  rw [← hP] at hmul
  have hadd : floatBits .add .f64 P (wideN c) = some (Ieee.double.word (sgn32 c) 9218868437227405312) := by
    show ((Ieee.double.read _).sum (Ieee.double.read _)).map _ = _
    rw [wide_read_inf hc, read_fin64 rP]
    show some (Ieee.double.write (.infinity (sgn32 c))) = _
    rw [write_inf]
  have e1 : floatBits .sub .f64 (Ieee.double.word (sgn32 c) 9218868437227405312) P = some (Ieee.double.word (sgn32 c) 9218868437227405312) := by
    show ((Ieee.double.read _).sum (Ieee.double.read _).opposite).map _ = _
    rw [read_winf64, read_fin64 rP]
    show some (Ieee.double.write (.infinity (sgn32 c))) = _
    rw [write_inf]
  have e2 : floatBits .sub .f64 (wideN c) (Ieee.double.word (sgn32 c) 9218868437227405312) = none := by
    rw [wide_inf hc]; exact sub_inf_inf _
  have e : toldD (fmaD a b c) = toldD (some (Ieee.double.read (Ieee.double.word (sgn32 c) 9218868437227405312))) := by
    unfold fmaD
    rw [read_fin32 ha, read_fin32 hb, read_inf32 hc, told_inf]
    show Ieee.single.word _ Ieee.single.infRung = _
    rw [inf32]
  rw [e]
  exact cfma_odd a b c P _ (fin_num ha) (fin_num hb) (inf_num hc) hmul (fun w => odd_inf _ _ _ (inf_even _).2 (inf_even _).1 hadd (fun w => lost_inf2 _ _ _ e1 (sub_inf_inf _) e2 w) w) w

theorem cfma_any (a b c : Nat) (w : World) :
    Calls Try.prog 33 #[.int .u32 (a : Int), .int .u32 (b : Int), .int .u32 (c : Int)] w fun e w' => e = .returned (.int .u32 (toldD (fmaD a b c) : Nat)) ∧ Q w w' := by
  cases hna : nanN a
  case true =>
    have e : toldD (fmaD a b c) = 2143289344 := by unfold fmaD; rw [product_nan1 (read32_nan hna)]; rfl
    rw [e]; exact cfma_nan a b c (Or.inl hna) w
  cases hnb : nanN b
  case true =>
    have e : toldD (fmaD a b c) = 2143289344 := by unfold fmaD; rw [product_nan2 (read32_nan hnb)]; rfl
    rw [e]; exact cfma_nan a b c (Or.inr (Or.inl hnb)) w
  cases hnc : nanN c
  case true =>
    have e : toldD (fmaD a b c) = 2143289344 := by
      unfold fmaD
      cases (Ieee.single.read a).product (Ieee.single.read b) with
      | none => rfl
      | some d =>
        show toldD (d.sum (Ieee.single.read c)) = _
        rw [sum_nan2 (read32_nan hnc)]; rfl
    rw [e]; exact cfma_nan a b c (Or.inr (Or.inr (Or.inl hnc))) w
  have ra := hna
  have rb := hnb
  have rc := hnc
  rw [nanN_rung] at ra rb rc
  have ra := of_decide_eq_false ra
  have rb := of_decide_eq_false rb
  have rc := of_decide_eq_false rc
  rcases Nat.lt_or_ge (rung32 a) 2139095040 with ga | ga
  · rcases Nat.lt_or_ge (rung32 b) 2139095040 with gb | gb
    · rcases Nat.lt_or_ge (rung32 c) 2139095040 with gc | gc
      · exact fma_fin ga gb gc w
      · exact fma_cinf ga gb (by omega) w
    · by_cases z : mag32 (rung32 a) = 0
      · refine fma_pnone ?_ ?_ w
        · show ((Ieee.double.read _).product (Ieee.double.read _)).map _ = _
          rw [wide_read_inf (a := b) (by omega), read_fin64 (wide_fin ga).1]
          show (if mag64 (rung64 (wideN a)) = 0 then none else some (Ieee.Datum.infinity (sgn32 b ^^ sgn64 (wideN a)))).map Ieee.double.write = _
          rw [if_pos ((wide_mag_zero ga).2 z)]; rfl
        · rw [read_fin32 ga, read_inf32 (by omega)]
          show (if mag32 (rung32 a) = 0 then none else some (Ieee.Datum.infinity (sgn32 b ^^ sgn32 a))) = _
          rw [if_pos z]
      · refine fma_pinf (σ := sgn32 b ^^ sgn32 a) hna hnb hnc ?_ ?_ w
        · show ((Ieee.double.read _).product (Ieee.double.read _)).map _ = _
          rw [wide_read_inf (a := b) (by omega), read_fin64 (wide_fin ga).1]
          show (if mag64 (rung64 (wideN a)) = 0 then none else some (Ieee.Datum.infinity (sgn32 b ^^ sgn64 (wideN a)))).map Ieee.double.write = _
          rw [if_neg (fun h => z ((wide_mag_zero ga).1 h)), (wide_fin ga).2.1]
          show some (Ieee.double.write (.infinity _)) = _
          rw [write_inf]
        · rw [read_fin32 ga, read_inf32 (by omega)]
          show (if mag32 (rung32 a) = 0 then none else some (Ieee.Datum.infinity (sgn32 b ^^ sgn32 a))) = _
          rw [if_neg z]
  · rcases Nat.lt_or_ge (rung32 b) 2139095040 with gb | gb
    · by_cases z : mag32 (rung32 b) = 0
      · refine fma_pnone ?_ ?_ w
        · show ((Ieee.double.read _).product (Ieee.double.read _)).map _ = _
          rw [wide_read_inf (by omega), read_fin64 (wide_fin gb).1]
          show (if mag64 (rung64 (wideN b)) = 0 then none else some (Ieee.Datum.infinity (sgn32 a ^^ sgn64 (wideN b)))).map Ieee.double.write = _
          rw [if_pos ((wide_mag_zero gb).2 z)]; rfl
        · rw [read_fin32 gb, read_inf32 (by omega)]
          show (if mag32 (rung32 b) = 0 then none else some (Ieee.Datum.infinity (sgn32 a ^^ sgn32 b))) = _
          rw [if_pos z]
      · refine fma_pinf (σ := sgn32 a ^^ sgn32 b) hna hnb hnc ?_ ?_ w
        · show ((Ieee.double.read _).product (Ieee.double.read _)).map _ = _
          rw [wide_read_inf (by omega), read_fin64 (wide_fin gb).1]
          show (if mag64 (rung64 (wideN b)) = 0 then none else some (Ieee.Datum.infinity (sgn32 a ^^ sgn64 (wideN b)))).map Ieee.double.write = _
          rw [if_neg (fun h => z ((wide_mag_zero gb).1 h)), (wide_fin gb).2.1]
          show some (Ieee.double.write (.infinity _)) = _
          rw [write_inf]
        · rw [read_fin32 gb, read_inf32 (by omega)]
          show (if mag32 (rung32 b) = 0 then none else some (Ieee.Datum.infinity (sgn32 a ^^ sgn32 b))) = _
          rw [if_neg z]
    · refine fma_pinf (σ := sgn32 a ^^ sgn32 b) hna hnb hnc ?_ ?_ w
      · show ((Ieee.double.read _).product (Ieee.double.read _)).map _ = _
        rw [wide_read_inf (by omega), wide_read_inf (by omega)]
        show some (Ieee.double.write (.infinity _)) = _
        rw [write_inf]
      · rw [read_inf32 (by omega), read_inf32 (by omega)]; rfl
end Go.Proofs.Ytlelgifdnhnphab
/- Plain facts: rounding to binary64 and then to binary32 does not show where no half-way number lies near. -/
namespace Go.Proofs.Ytlelgifdnhnphab
open Go.RowKit

theorem up_not {M D : Nat} (h : 2 * (M % 2 ^ D) < 2 ^ D) : rne M D = M / 2 ^ D := by
  unfold rne
  have : ¬ goesUp M D := by unfold goesUp; omega
  rw [if_neg this, Nat.add_zero]
theorem up_yes {M D : Nat} (h : 2 ^ D < 2 * (M % 2 ^ D)) : rne M D = M / 2 ^ D + 1 := by
  unfold rne
  rw [if_pos (show goesUp M D from Or.inl h)]
/-- Rounded twice. -/
theorem twice_gen {M K D : Nat} (hKD : K + 1 ≤ D) (hmid : rne M K * 2 ^ K % 2 ^ D = 2 ^ (D - 1) → rne M K * 2 ^ K = M) : rne (rne M K * 2 ^ K) D = rne M D := by
  obtain ⟨n1, n2⟩ := rne_near M K
  obtain ⟨c, hc⟩ : ∃ c, c = rne M K := ⟨_, rfl⟩
  rw [← hc] at n1 n2 hmid ⊢
  by_cases hCM : c * 2 ^ K = M
  · rw [hCM]
  have hno : c * 2 ^ K % 2 ^ D ≠ 2 ^ (D - 1) := fun h => hCM (hmid h)
  obtain ⟨i, hi⟩ : ∃ i, D = K + 1 + i := ⟨D - K - 1, by omega⟩
  have eU : 2 ^ D = 2 * 2 ^ i * 2 ^ K := by
    rw [hi, show K + 1 + i = 1 + i + K by omega, Nat.pow_add, Nat.pow_add, Nat.pow_one]
  have eH : 2 ^ (D - 1) = 2 ^ i * 2 ^ K := by rw [hi, show K + 1 + i - 1 = i + K by omega, Nat.pow_add]
  have hE := Nat.two_pow_pos K
  have hh := Nat.two_pow_pos i
  have et : c * 2 ^ K % 2 ^ D = c % (2 * 2 ^ i) * 2 ^ K := by rw [eU, Nat.mul_mod_mul_right]
  have hτ : c % (2 * 2 ^ i) < 2 * 2 ^ i := Nat.mod_lt _ (by omega)
  rw [et, eH] at hno
  have hτn : c % (2 * 2 ^ i) ≠ 2 ^ i := fun h => hno (by rw [h])
  have dC := Nat.div_add_mod (c * 2 ^ K) (2 ^ D)
  have dM := Nat.div_add_mod M (2 ^ D)
  have bM := Nat.mod_lt M (show 0 < 2 ^ D by rw [eU]; exact Nat.mul_pos (by omega) hE)
  -- how the rest lies
  have ht : 2 * (c * 2 ^ K % 2 ^ D) + 2 * 2 ^ K ≤ 2 ^ D ∨ (2 ^ D + 2 * 2 ^ K ≤ 2 * (c * 2 ^ K % 2 ^ D) ∧ c * 2 ^ K % 2 ^ D + 2 ^ K ≤ 2 ^ D) := by
    rw [et, eU]
    rcases Nat.lt_or_ge (c % (2 * 2 ^ i)) (2 ^ i) with g | g
    · left
      have := Nat.mul_le_mul_right (2 ^ K) (show c % (2 * 2 ^ i) + 1 ≤ 2 ^ i from g)
      rw [Nat.add_mul, Nat.one_mul] at this
      rw [Nat.mul_assoc 2]
      omega
    · right
      have h1 := Nat.mul_le_mul_right (2 ^ K) (show 2 ^ i + 1 ≤ c % (2 * 2 ^ i) by omega)
      have h2 := Nat.mul_le_mul_right (2 ^ K) (show c % (2 * 2 ^ i) + 1 ≤ 2 * 2 ^ i from hτ)
      rw [Nat.add_mul, Nat.one_mul] at h1 h2
      rw [Nat.mul_assoc 2] at h2 ⊢
      omega
  obtain ⟨U, hU⟩ : ∃ U, U = 2 ^ D := ⟨_, rfl⟩
  obtain ⟨E, hEe⟩ : ∃ E, E = 2 ^ K := ⟨_, rfl⟩
  obtain ⟨C, hC⟩ : ∃ C, C = c * 2 ^ K := ⟨_, rfl⟩
  have r1 := up_not (M := C) (D := D)
  have r2 := up_yes (M := C) (D := D)
  have r3 := up_not (M := M) (D := D)
  have r4 := up_yes (M := M) (D := D)
  rw [← hC] at n1 n2 dC ht ⊢
  rw [← hEe] at n1 n2 ht hE
  rw [← hU] at dC dM bM ht r1 r2 r3 r4
  obtain ⟨q, hq⟩ : ∃ q, q = C / U := ⟨_, rfl⟩
  obtain ⟨t, htt⟩ : ∃ t, t = C % U := ⟨_, rfl⟩
  obtain ⟨a, haa⟩ : ∃ a, a = M / U := ⟨_, rfl⟩
  obtain ⟨b, hbb⟩ : ∃ b, b = M % U := ⟨_, rfl⟩
  rw [← hq, ← htt] at dC
  rw [← haa, ← hbb] at dM
  rw [← htt] at ht
  rw [← hq, ← htt] at r1 r2
  rw [← haa, ← hbb] at r3 r4
  rw [← hbb] at bM
  rcases Nat.lt_trichotomy a q with g | g | g
  · -- one below
    obtain ⟨z, hz⟩ : ∃ z, q = a + 1 + z := ⟨q - a - 1, by omega⟩
    have e1 : U * q = U * a + U + U * z := by rw [hz, Nat.mul_add, Nat.mul_add, Nat.mul_one]
    have hz0 : z = 0 := by
      rcases Nat.eq_zero_or_pos z with k | k
      · exact k
      · have : U * 1 ≤ U * z := Nat.mul_le_mul_left _ k
        omega
    rw [hz0, Nat.mul_zero] at e1
    rcases ht with ht | ⟨ht, ht2⟩
    · rw [r1 (by omega), r4 (by omega)]; omega
    · omega
  · rw [g] at dM
    rcases ht with ht | ⟨ht, ht2⟩
    · rw [r1 (by omega), r3 (by omega), g]
    · rw [r2 (by omega), r4 (by omega), g]
  · obtain ⟨z, hz⟩ : ∃ z, a = q + 1 + z := ⟨a - q - 1, by omega⟩
    have e1 : U * a = U * q + U + U * z := by rw [hz, Nat.mul_add, Nat.mul_add, Nat.mul_one]
    rcases ht with ht | ⟨ht, ht2⟩ <;> omega

/-- To binary64, then to binary32. -/
theorem narrow_twice {Z : Nat} (hZ : Z.log2 ≤ 2000) (hmid : 0 < lostK Z → rne Z (lostK Z) * 2 ^ lostK Z % 2 ^ max (Z.log2 - 23) 925 = 2 ^ (max (Z.log2 - 23) 925 - 1) → rne Z (lostK Z) * 2 ^ lostK Z = Z) :
    rungOf Ieee.single (val64 (rungOf Ieee.double Z (-1074))) (-1074) = rungOf Ieee.single Z (-1074) := by
  rcases Nat.eq_zero_or_pos (lostK Z) with g | g
  · rw [vN_div hZ (by rw [g]; exact Nat.one_dvd _)]
  · rw [vN_eq hZ]
    have hL : Z.log2 = 52 + lostK Z := by unfold lostK at *; omega
    have h0 : Z ≠ 0 := by intro h0; rw [h0] at g; exact absurd g (by decide)
    obtain ⟨D, hD⟩ : ∃ D, D = max (Z.log2 - 23) 925 := ⟨_, rfl⟩
    have htw := twice_gen (M := Z) (K := lostK Z) (D := D) (by omega) (by rw [hD]; exact hmid g)
    obtain ⟨b1, b2⟩ := kept_bd (M := Z)
    have b2 := b2 g
    obtain ⟨c, hc⟩ : ∃ c, c = rne Z (lostK Z) := ⟨_, rfl⟩
    rw [← hc] at htw b1 b2 ⊢
    have hr : rungOf Ieee.single Z (-1074) = min ((D - 925) * 8388608 + rne Z D) 2139095040 := by
      unfold rungOf
      have hl : lastOf Ieee.single Z (-1074) = -1074 + (D : Int) := by unfold lastOf; rw [least32, show (Ieee.single.fractionBits : Int) = 23 from rfl]; omega
      rw [if_neg h0, hl, least32, binade32, inf32, show (-1074 : Int) - (-1074 + (D : Int)) = -(D : Int) by omega, rz_neg, show (-1074 + (D : Int) - -149).toNat = D - 925 by omega]
    rw [hr, ← htw]
    have hC0 : c * 2 ^ lostK Z ≠ 0 := Nat.mul_ne_zero (by omega) (by have := Nat.two_pow_pos (lostK Z); omega)
    rcases Nat.lt_or_ge c 9007199254740992 with k | k
    · have hlc : (c * 2 ^ lostK Z).log2 = Z.log2 := by
        rw [log2_mul_pow (by omega), hL, (Nat.log2_eq_iff (by omega)).2 ⟨show 2 ^ 52 ≤ c by omega, show c < 2 ^ 53 by omega⟩]
      unfold rungOf
      have hl : lastOf Ieee.single (c * 2 ^ lostK Z) (-1074) = -1074 + (D : Int) := by unfold lastOf; rw [least32, show (Ieee.single.fractionBits : Int) = 23 from rfl, hlc]; omega
      rw [if_neg hC0, hl, least32, binade32, inf32, show (-1074 : Int) - (-1074 + (D : Int)) = -(D : Int) by omega, rz_neg, show (-1074 + (D : Int) - -149).toNat = D - 925 by omega]
    · have hc1 : c = 2 ^ 53 := by omega
      have eC : c * 2 ^ lostK Z = 2 ^ (53 + lostK Z) := by rw [hc1, Nat.pow_add]
      have hlc : (c * 2 ^ lostK Z).log2 = Z.log2 + 1 := by rw [eC, Nat.log2_two_pow]; omega
      unfold rungOf
      rw [if_neg hC0]
      rcases Nat.lt_or_ge (Z.log2 - 23) 925 with j | j
      · have hl : lastOf Ieee.single (c * 2 ^ lostK Z) (-1074) = -1074 + (D : Int) := by unfold lastOf; rw [least32, show (Ieee.single.fractionBits : Int) = 23 from rfl, hlc]; omega
        rw [hl, least32, binade32, inf32, show (-1074 : Int) - (-1074 + (D : Int)) = -(D : Int) by omega, rz_neg, show (-1074 + (D : Int) - -149).toNat = D - 925 by omega]
      · have hl : lastOf Ieee.single (c * 2 ^ lostK Z) (-1074) = -1074 + ((D + 1 : Nat) : Int) := by unfold lastOf; rw [least32, show (Ieee.single.fractionBits : Int) = 23 from rfl, hlc]; omega
        rw [hl, least32, binade32, inf32, show (-1074 : Int) - (-1074 + ((D + 1 : Nat) : Int)) = -((D + 1 : Nat) : Int) by omega, rz_neg, show (-1074 + ((D + 1 : Nat) : Int) - -149).toNat = D + 1 - 925 by omega]
        have k1 : rne (c * 2 ^ lostK Z) (D + 1) = 8388608 := by
          rw [eC, show 53 + lostK Z = 23 + (D + 1) by omega, Nat.pow_add, rne_exact]
        have k2 : rne (c * 2 ^ lostK Z) D = 16777216 := by
          rw [eC, show 53 + lostK Z = 24 + D by omega, Nat.pow_add, rne_exact]
        rw [k1, k2, show (D + 1 - 925) * 8388608 + 8388608 = (D - 925) * 8388608 + 16777216 by omega]
/-- A word of binary64 made of a number, made narrow. -/
theorem told_twice {s : Bool} {Z : Nat} (hZ : Z.log2 ≤ 2000) (hmid : 0 < lostK Z → rne Z (lostK Z) * 2 ^ lostK Z % 2 ^ max (Z.log2 - 23) 925 = 2 ^ (max (Z.log2 - 23) 925 - 1) → rne Z (lostK Z) * 2 ^ lostK Z = Z) :
    toldD (some (Ieee.double.read (Ieee.double.word s (rungOf Ieee.double Z (-1074))))) = Ieee.single.word s (rungOf Ieee.single Z (-1074)) := by
  have hr : rungOf Ieee.double Z (-1074) < 9218868437227405312 := by
    rw [rung64_eq hZ]
    have := (kept_bd (M := Z)).1
    have : lostK Z ≤ 1948 := by unfold lostK; omega
    omega
  obtain ⟨a1, a2⟩ := sgn_word64 s (r := rungOf Ieee.double Z (-1074)) (by omega)
  rw [read_fin64 (by rw [a2]; exact hr), a1, a2, toldD_num, rung_word64, narrow_twice hZ hmid]
end Go.Proofs.Ytlelgifdnhnphab
