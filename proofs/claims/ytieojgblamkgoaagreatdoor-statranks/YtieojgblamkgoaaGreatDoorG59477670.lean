/- Plain facts: the reference's word of binary64, put together. -/
import Derived.Test.YtieojgblamkgoaaGreatDoorGa2b31cb4
import Derived.Test.YtieojgblamkgoaaGreatDoorG90fa32cd
import Derived.Test.YtieojgblamkgoaaGreatDoorGbbd98f2c
import Derived.Test.YtieojgblamkgoaaGreatDoorG18fb3a0f
namespace Go.Proofs.YtieojgblamkgoaaGreatDoor
open Go.RowKit

/-- The word that the reference puts together. -/
theorem or_word_64 {neg : Bool} {r : Nat} (hr : r < 9223372036854775808) : bits .or .u64 (signV true neg) (r : Int) = ((Ieee.double.word neg r : Nat) : Int) := by
  unfold Ieee.Format.word signV
  rw [double_sign]
  cases neg
  · show bits .or .u64 ((0 : Nat) : Int) (r : Int) = _
    rw [u64_or_nat _ _ (by decide) (by omega), Nat.zero_or]; rfl
  · show bits .or .u64 ((9223372036854775808 : Nat) : Int) (r : Int) = _
    rw [u64_or_nat _ _ (by decide) (by omega), show (9223372036854775808 : Nat) = 2 ^ 63 * 1 from rfl, ← Nat.two_pow_add_eq_or_of_lt (i := 63) hr 1]
    rfl
theorem or_word2_64 {neg : Bool} {x fr : Nat} (hx : x < 2048) (hf : fr < 4503599627370496) :
    bits .or .u64 ((Ieee.double.word neg (x * 4503599627370496) : Nat) : Int) (fr : Int) = ((Ieee.double.word neg (x * 4503599627370496 + fr) : Nat) : Int) := by
  have e : Ieee.double.word neg (x * 4503599627370496) = 2 ^ 52 * ((if neg = true then 2048 else 0) + x) := by
    unfold Ieee.Format.word; rw [double_sign]; cases neg <;> simp <;> omega
  have e2 : Ieee.double.word neg (x * 4503599627370496 + fr) = 2 ^ 52 * ((if neg = true then 2048 else 0) + x) + fr := by
    unfold Ieee.Format.word; rw [double_sign]; cases neg <;> simp <;> omega
  have hb : (if neg = true then 2048 else 0) ≤ 2048 := by split <;> omega
  rw [e2, e, u64_or_nat _ _ (by omega) (by omega), ← Nat.two_pow_add_eq_or_of_lt (i := 52) hf]
theorem word_lt_64 {neg : Bool} {r : Nat} (hr : r < 9223372036854775808) : Ieee.double.word neg r < 18446744073709551616 := by
  unfold Ieee.Format.word; rw [double_sign]; split <;> omega

/-- Carried where it must be: what is kept, and its place. -/
theorem carried_64 {n K : Nat} {T : Int} {R : Nat} (h1 : K ≤ 2 * 4503599627370496) (h2 : -1074 ≤ T) (h3 : K < 4503599627370496 → T = -1074 ∨ n = 0) (h0 : n = 0 → K = 0)
    (h4 : R = if n = 0 then 0 else min ((T - -1074).toNat * 4503599627370496 + K) 9218868437227405312) :
    ∃ (K' : Nat) (T' : Int), K' < 9007199254740992 ∧ -1074 ≤ T' ∧ T' ≤ T + 1 ∧ ((K = 9007199254740992 ∧ K' = 4503599627370496 ∧ T' = T + 1) ∨ (K < 9007199254740992 ∧ K' = K ∧ T' = T)) ∧
      (K' < 4503599627370496 → R = K') ∧ (4503599627370496 ≤ K' → R = min ((T' + 1074).toNat * 4503599627370496 + K') 9218868437227405312) := by
  by_cases hK : K = 9007199254740992
  · refine ⟨4503599627370496, T + 1, by decide, by omega, by omega, Or.inl ⟨hK, rfl, rfl⟩, fun h => absurd h (by decide), fun _ => ?_⟩
    have : n ≠ 0 := fun e => by have := h0 e; omega
    rw [h4, if_neg this]
    have e1 : (T + 1 + 1074).toNat = (T - -1074).toNat + 1 := by omega
    have e2 : ∀ y : Nat, y * 4503599627370496 + 9007199254740992 = (y + 1) * 4503599627370496 + 4503599627370496 := fun y => by omega
    rw [e1, hK, e2]
  · refine ⟨K, T, by omega, h2, by omega, Or.inr ⟨by omega, rfl, rfl⟩, fun h => ?_, fun h => ?_⟩
    · rw [h4]
      by_cases hn : n = 0
      · rw [if_pos hn, h0 hn]
      · rw [if_neg hn]
        rcases h3 h with g | g
        · rw [g]; simp; omega
        · exact absurd g hn
    · have : n ≠ 0 := fun e => by have := h0 e; omega
      rw [h4, if_neg this]
      rw [show (T - -1074).toNat = (T + 1074).toNat by omega]
end Go.Proofs.YtieojgblamkgoaaGreatDoor
/- What the reference's Round returns at binary64: the nearest word. -/
namespace Go.Proofs.YtieojgblamkgoaaGreatDoor
open Go.RowKit

set_option maxHeartbeats 8000000 in
set_option maxRecDepth 1000000 in
theorem round64_fin (neg : Bool) (nv : Value) (n : Nat) (e : Int) (more : Bool) (w : World) (hn : NatAt w nv n) (hb : blen n ≤ 6000) (e0 : -5000 ≤ e) (e1 : e ≤ 5000)
    (hmore : more = true → n ≠ 0 ∧ e + 1 ≤ lastOf Ieee.double n e) :
    Calls Tryz.prog 101 #[.agg #[.int .i64 52, .int .i64 11], .agg #[.int .i64 2, .bool neg, nv, .int .i64 e, .bool more]] w
      fun x w' => x = .returned (.int .u64 ((Ieee.double.word neg (rungOf Ieee.double (2 * n + more.toNat) (e - 1)) : Nat) : Int)) ∧ Q w w' := by
  have hbl := hb
  have HMO : Hid _ := hmore
  clear hb hmore
  obtain ⟨T, hT⟩ : ∃ T : Int, T = toV n e 52 (-1074) := ⟨_, rfl⟩
  have HT : Hid _ := hT
  have hT1 : T ≤ 12000 := by rw [hT]; unfold toV; omega
  have hT0 : -1074 ≤ T := by rw [hT]; unfold toV; omega
  have hcase : ((blen n : Int) + e - 53 < -1074 ∧ Hid (T = -1074)) ∨ (¬ (blen n : Int) + e - 53 < -1074 ∧ Hid (T = (blen n : Int) + e - 53)) := by
    unfold toV at hT
    by_cases h : (blen n : Int) + e - 53 < -1074
    · exact Or.inl ⟨h, by show T = _; omega⟩
    · exact Or.inr ⟨h, by show T = _; omega⟩
  have HC : Hid _ := hcase
  clear hT hcase
  obtain ⟨pn, bn, Ln, Cn, rfl, hnI⟩ := hn
  have hn : NatAt w (.slice pn Ln Cn) n := ⟨pn, bn, Ln, Cn, rfl, hnI⟩
  go_enter Tryz.func101, Tryz.ntmps101
  go_wp2_with fail
  refine (bias_any 52 11 1075 (by decide) _).mono ?_
  rintro x v1 ⟨rfl, rfl⟩
  go_upto_region 8 with fail
  go_cut [8] from 17 (fun s8 wc => s8 = .int .i64 T ∧ RBox 52 11 w wc neg more)
  case first =>
    have a1 : IntKind.i64.wrap ((blen n : Int) + e) = (blen n : Int) + e := by rw [IntKind.wrap_i64]; omega
    have a2 : IntKind.i64.wrap 53 = 53 := by decide
    have a3 : IntKind.i64.wrap ((blen n : Int) + e - 53) = (blen n : Int) + e - 53 := by rw [IntKind.wrap_i64]; omega
    rcases HC.out with ⟨h1, h2⟩ | ⟨h1, h2⟩
    all_goals
      go_region_held3 (fun w' => w'.cell? ⟨w.heap.size, 0, none⟩ = some (.int .i64 52)) (first | (simp [go_sem]; done) | go_keep) (first | (go_at_call 118; refine (bits_any _ n _ (Q.nat (((((Q.refl w).cells _ _).cells _ _).cells _ _).drew.drew) hn)).mono ?_; rintro x v1 ⟨rfl, rfl⟩))
      all_goals
        go_wp2_with fail
        go_meet
        case rel =>
          go_light
          exact ⟨congrArg (Value.int .i64) h2.out.symm, ((((Q.refl w).cells _ _).cells _ _).cells _ _).drew.drew, by simp [go_sem], by simp [go_sem], by simp [go_sem], by simp [go_sem]⟩
  case rest =>
    obtain ⟨rfl, hB⟩ := hcut
    have b0 := hB.f0
    have b4 := hB.k4
    go_upto_if 54 with fail
    go_cut [5, 9] from 17 (fun s5 s9 wc => ∃ (up : Bool) (m : Nat), s9 = .bool up ∧ NatAt wc s5 m ∧ m + up.toNat = keptV n more.toNat e T ∧ RBox 52 11 w wc neg more)
    case first =>
      by_cases hTe : e < T
      · obtain ⟨d, hd⟩ : ∃ d : Nat, T = e + (d + 1 : Nat) := ⟨(T - e - 1).toNat, by omega⟩
        have hdz : T - e - 1 = (d : Int) := by omega
        have hdz2 : T - e = ((d + 1 : Nat) : Int) := by omega
        have HD : Hid _ := hd
        clear hd
        have hdn : d ≤ 20000 := by omega
        have hbv := bitV_le n d
        go_wp2_with fail
        refine (bit_any _ n d _ (hB.q.nat hn) hdn).mono ?_
        rintro x wd ⟨rfl, hwd⟩
        subst hwd
        go_upto_block 0 with fail
        go_cut [11] from 17 (fun s11 wx => s11 = .bool (more || restB n d) ∧ wd = wx)
        case first =>
          go_wp2_with fail
          go_loopg [11, 12] d (fun g s11 s12 wr => wd = wr ∧ ∃ k : Nat, k ≤ d ∧ g = d - k ∧ s12 = .int .i64 k ∧ s11 = .bool (more || restB n k))
          case atStart => exact ⟨rfl, 0, Nat.zero_le _, rfl, rfl, by rw [restB_zero, Bool.or_false]⟩
          case round =>
            obtain ⟨rfl, k, hk, rfl, rfl, rfl⟩ := hrel
            by_cases hkd : k < d
            · have hkz : (k : Int) < (d : Int) := by omega
              cases hbel : (more || restB n k)
              · have hf : more = false ∧ restB n k = false := by simpa using hbel
                have HF : Hid _ := restB_f hf.2
                have hm0 := hf.1
                subst hm0
                clear hf
                go_wp2_with fail
                refine (bit_any _ n k _ (hB.q.nat hn) (by omega)).mono ?_
                rintro x we ⟨rfl, hwe⟩
                subst hwe
                go_wp2_with fail
                go_roundg (d - (k + 1))
                case measure => go_light; omega
                case rel => go_light; exact ⟨rfl, k + 1, by omega, rfl, by simp, congrArg Value.bool (by rw [HF.out, Bool.false_or])⟩
              · go_wp2_with fail
                go_meet
                case rel =>
                  go_light
                  exact ⟨congrArg Value.bool (by rw [← below_more hkd hbel, ← hbel]), rfl⟩
            · obtain rfl : k = d := by omega
              have hkz : ¬ (k : Int) < (k : Int) := by omega
              go_wp2_with fail
              go_meet
              case rel => go_light; exact ⟨rfl, rfl⟩
        case rest =>
          obtain ⟨rfl, rfl⟩ := hcut
          have HK : Hid (keptV n more.toNat e T = _) := kept_down (d + 1) HD.out (by omega) (by cases more <;> decide)
          go_wp2_with fail
          refine (down_any _ n (d + 1) _ (hB.q.nat hn) (by omega)).mono ?_
          rintro x wf ⟨v, rfl, hv, qv⟩
          have hbv2 := bitV_le (n / 2 ^ (d + 1)) 0
          have HV : Hid (NatAt wf v (n / 2 ^ (d + 1))) := hv
          cases hhalf : ((bitV n d : Int) == 1)
          · have hh : bitV n d ≠ 1 := by have := beq_eq_false_iff_ne.1 hhalf; omega
            have HH : Hid _ := hh
            clear hh hbv hbv2
            go_wp2_with fail
            go_meet
            case rel =>
              go_light
              exact ⟨false, n / 2 ^ (d + 1), rfl, HV.out, by rw [HK.out, if_neg (fun c => HH.out c.1)]; rfl, hB.next qv⟩
          · have hh : bitV n d = 1 := by have := beq_iff_eq.1 hhalf; omega
            have HH : Hid _ := hh
            clear hh hbv
            cases hbel : (more || restB n d)
            · have hf : more = false ∧ restB n d = false := by simpa using hbel
              have HF : Hid _ := hf
              clear hf
              go_wp2_with fail
              refine (bit_any v _ 0 _ HV.out (by decide)).mono ?_
              rintro x wg ⟨rfl, hwg⟩
              subst hwg
              go_wp2_with fail
              go_meet
              case rel =>
                go_light
                refine ⟨((bitV (n / 2 ^ (d + 1)) 0 : Int) == 1), n / 2 ^ (d + 1), rfl, HV.out, ?_, hB.next qv⟩
                rw [HK.out]
                exact kept_odd HH.out HF.out.1 HF.out.2 hbv2
            · have HF : Hid _ := hbel
              go_wp2_with fail
              go_meet
              case rel =>
                go_light
                refine ⟨true, n / 2 ^ (d + 1), rfl, HV.out, ?_, hB.next qv⟩
                rw [HK.out]
                exact kept_below HH.out HF.out
      · obtain ⟨d, hd⟩ : ∃ d : Nat, e = T + (d : Nat) := ⟨(e - T).toNat, by omega⟩
        have hdz : e - T = (d : Int) := by omega
        have HD : Hid _ := hd
        clear hd
        go_wp2_with fail
        have HU : Hid (n * 2 ^ d < 2 ^ 53) := by
          have h1 := HD.out
          have h2 := HT.out
          have h3 := blen_lt n
          unfold toV at h2
          by_cases h0 : n = 0
          · show n * 2 ^ d < 2 ^ 53
            rw [h0, Nat.zero_mul]; decide
          · show n * 2 ^ d < 2 ^ 53
            have h4 : blen n + d ≤ 53 := by omega
            have h5 : n * 2 ^ d < 2 ^ blen n * 2 ^ d := Nat.mul_lt_mul_of_pos_right h3 (Nat.two_pow_pos d)
            rw [← Nat.pow_add] at h5
            exact Nat.lt_of_lt_of_le h5 (Nat.pow_le_pow_right (by decide) h4)
        refine (up_any _ n d _ (hB.q.nat hn) (lt_cap HU.out (by decide))).mono ?_
        rintro x wf ⟨v, rfl, hv, qv⟩
        have HV : Hid _ := hv
        clear hv
        go_wp2_with fail
        go_meet
        case rel =>
          go_light
          have hm0 : more = false := by
            cases hmm : more
            · rfl
            · have h1 := HMO.out hmm
              have h2 := HT.out
              have h3 := toV_last Ieee.double e h1.1
              rw [double_least] at h3
              have h4 : toV n e 52 (-1074) = lastOf Ieee.double n e := h3
              have h5 := HD.out
              omega
          exact ⟨false, n * 2 ^ d, rfl, HV.out, by rw [hm0]; exact (kept_up d HD.out).symm, hB.next qv⟩
    case rest =>
      obtain ⟨up, m, rfl, hm, hk, hB2⟩ := hcut
      have HK : Hid _ := hk
      clear hk b0 b4 hB
      obtain ⟨K, hK⟩ : ∃ K, K = keptV n more.toNat e T := ⟨_, rfl⟩
      have HKK : Hid _ := hK
      have hfacts := kept_facts Ieee.double n more.toNat e (by cases more <;> decide) (fun h => (HMO.out (by cases more <;> simp_all)).1)
      rw [double_binade, double_least, double_frac, double_inf] at hfacts
      have hTn : toV n e ((52 : Nat) : Int) (-1074) = T := HT.out.symm
      rw [hTn, ← hK] at hfacts
      have HFA : Hid _ := hfacts
      have hK24 : K ≤ 9007199254740992 := by have := hfacts.1; omega
      clear hfacts hK hTn
      go_upto_if 103 with fail
      go_cut [5] from 17 (fun s5 wc => NatAt wc s5 K ∧ RBox 52 11 w wc neg more)
      case first =>
        cases up
        · have hmk : m = K := by have h1 := HK.out; rw [← HKK.out] at h1; simpa using h1
          go_wp2_with fail
          go_meet
          case rel => go_light; rw [← hmk]; exact ⟨hm, hB2⟩
        · have hmk : m + 1 = K := by have h1 := HK.out; rw [← HKK.out] at h1; simpa using h1
          have HMK : Hid _ := hmk
          clear hmk
          go_wp2_with fail
          refine (natof_nat 1 _ (by decide)).mono ?_
          rintro x wf ⟨v, rfl, hv, qv⟩
          go_wp2_with fail
          refine (plus_any _ _ m 1 _ (qv.nat hm) hv (lt_cap (k := 54) (by have := HMK.out; omega) (by decide))).mono ?_
          rintro x wg ⟨v2, rfl, hv2, qv2⟩
          go_wp2_with fail
          go_meet
          case rel => go_light; rw [← HMK.out]; exact ⟨hv2, (hB2.next qv).next qv2⟩
      case rest =>
        obtain ⟨hs5, hB3⟩ := hcut
        have b0 := hB3.f0
        have b1 := hB3.f1
        have bk := hB3.k1
        obtain ⟨K', T', c1, c2, c3, c4, c5, c6⟩ := carried_64 HFA.out.1 HFA.out.2.1 HFA.out.2.2.1 (fun h => by
          have h1 := HFA.out.2.2.2
          have h2 : more = false := by
            cases hmm : more
            · rfl
            · exact absurd h (HMO.out hmm).1
          rw [HKK.out, h, h2]; exact kept_zero _ _) HFA.out.2.2.2
        have C5 : Hid _ := c5
        have C6 : Hid _ := c6
        have C4 : Hid _ := c4
        clear c4 c5 c6
        have a2 : IntKind.i64.wrap 53 = 53 := by decide
        go_upto_region 23 with fail
        go_cut [112] from 17 (fun s112 wx => s112 = .bool (decide (53 < (blen K : Int))) ∧ Q wc wx)
        case first =>
          go_region_held3 (fun w' => w'.cell? ⟨w.heap.size, 0, none⟩ = some (.int .i64 52)) (first | (simp [go_sem, b0]; done) | go_keep) (first | (go_at_call 118; refine (bits_any _ K _ ((Q.refl wc).drew.nat hs5)).mono ?_; rintro x v1 ⟨rfl, rfl⟩))
          all_goals
            go_wp2_with fail
            go_meet
            case rel => go_light; exact ⟨rfl, (Q.refl wc).drew⟩
        case rest =>
          obtain ⟨rfl, qx⟩ := hcut
          have hB4 := hB3.next qx
          have hs5b := qx.nat hs5
          clear b0 b1 bk hB3 hs5
          go_upto_if 112 with fail
          go_cut [5, 8] from 17 (fun s5 s8 wx => NatAt wx s5 K' ∧ s8 = .int .i64 T' ∧ RBox 52 11 w wx neg more)
          case first =>
            rcases C4.out with ⟨g1, g2, g3⟩ | ⟨g1, g2, g3⟩
            · have hd : (53 : Int) < (blen K : Int) := by rw [g1]; decide
              have G1 : Hid _ := g1
              have G2 : Hid _ := g2
              have G3 : Hid _ := g3
              clear g1 g2 g3
              go_wp2_with fail
              refine (down_any _ K 1 _ hs5b (by decide)).mono ?_
              rintro x wf ⟨v, rfl, hv, qv⟩
              go_wp2_with fail
              go_meet
              case rel =>
                go_light
                refine ⟨?_, congrArg (Value.int .i64) G3.out.symm, hB4.next qv⟩
                have : K / 2 ^ 1 = K' := by rw [G1.out, G2.out]
                rw [← this]; exact hv
            · have hd : ¬ (53 : Int) < (blen K : Int) := by
                have := blen_le (n := K) (k := 53) (by omega)
                omega
              have G2 : Hid _ := g2
              have G3 : Hid _ := g3
              clear g1 g2 g3
              go_wp2_with fail
              go_meet
              case rel => go_light; exact ⟨by rw [G2.out]; exact hs5b, congrArg (Value.int .i64) G3.out.symm, hB4⟩
          case rest =>
            obtain ⟨hs6, rfl, hB5⟩ := hcut
            have b0 := hB5.f0
            have b1 := hB5.f1
            have bk := hB5.k1
            have hlow : lowV K' = K' := Nat.mod_eq_of_lt (by omega)
            have w2 : IntKind.u64.wrap 4503599627370496 = 4503599627370496 := by decide
            have w3 : IntKind.u64.wrap 4503599627370495 = 4503599627370495 := by decide
            have w4 : IntKind.u64.wrap 9218868437227405312 = 9218868437227405312 := by decide
            by_cases hsub : K' < 4503599627370496
            · have hz : (K' : Int) < 4503599627370496 := by omega
              have hor := or_word_64 (neg := neg) (r := K') (by omega)
              go_wp2_with fail
              refine (low_any _ K' _ hs6).mono ?_
              rintro x wg ⟨rfl, hwg⟩
              subst hwg
              rw [hlow]
              go_wp2_with fail
              refine (sign_any 52 11 true neg (by decide) _).mono ?_
              rintro x wh ⟨rfl, rfl⟩
              go_wp2_with fail
              go_ret
              exact ⟨ret_int (by rw [C5.out hsub]), (hB5.q).cells _ _⟩
            · have hz : ¬ (K' : Int) < 4503599627370496 := by omega
              obtain ⟨X, hX⟩ : ∃ X : Nat, T' + 1075 = (X : Int) := ⟨(T' + 1075).toNat, by omega⟩
              have hXr := C6.out (by omega)
              rw [show (T' + 1074).toNat = X - 1 by omega] at hXr
              have HX : Hid _ := hXr
              have HX1 : Hid (1 ≤ X) := by show 1 ≤ X; omega
              have hX2 : X ≤ 14000 := by omega
              have hzb : decide ((K' : Int) < 4503599627370496) = false := decide_eq_false hz
              have HX0 : Hid _ := hX
              have HX2 : Hid _ := hX2
              clear hXr w2 w3 w4 hX hX2 c2 c3
              go_wp2_with fail
              refine (low_any _ K' _ hs6).mono ?_
              rintro x wg ⟨rfl, hwg⟩
              subst hwg
              rw [hlow]
              go_wp2_with fail
              refine (bias_any 52 11 1075 (by decide) _).mono ?_
              rintro x wh ⟨rfl, hwh⟩
              have hB6 : RBox 52 11 w wh neg more := hB5.next (by rw [hwh]; exact ((Q.refl _).cells _ _).drew)
              have b0 := hB6.f0
              have b1 := hB6.f1
              have bk := hB6.k1
              have hX := HX0.out
              have hX2 := HX2.out
              clear hz hzb hwh
              go_wp2_with fail
              refine (top_any 52 11 2047 (by decide) _).mono ?_
              rintro x wi ⟨rfl, hwi⟩
              have hB7 : RBox 52 11 w wi neg more := hB6.next (by rw [hwi]; exact (Q.refl _).cells _ _)
              have b0 := hB7.f0
              have b1 := hB7.f1
              have bk := hB7.k1
              clear hwi
              by_cases hinf : 2047 ≤ X
              · have hiz : (2047 : Int) ≤ (X : Int) := by omega
                have hib : decide ((2047 : Int) ≤ (X : Int)) = true := decide_eq_true hiz
                go_wp2_with fail
                have w4 : IntKind.u64.wrap 9218868437227405312 = 9218868437227405312 := by decide
                have hor := or_word_64 (neg := neg) (r := 9218868437227405312) (by decide)
                rw [show ((9218868437227405312 : Nat) : Int) = 9218868437227405312 from rfl] at hor
                obtain ⟨Wd, hWd⟩ : ∃ Wd : Nat, Wd = Ieee.double.word neg 9218868437227405312 := ⟨_, rfl⟩
                rw [← hWd] at hor
                have HWD : Hid _ := hWd
                clear hWd
                go_region_held3 (fun w' => w'.cell? ⟨w.heap.size, 0, none⟩ = some (.int .i64 52) ∧ w'.cell? ⟨w.heap.size, 1, none⟩ = some (.int .i64 11) ∧ w'.cell? ⟨w.heap.size + 1, 1, none⟩ = some (.bool neg)) (first | (simp [World.cell?_alloc_some, b0, b1, bk]; done) | (simp [World.cell?_alloc_some, b0, b1, bk, go_sem]; done) | go_keep) (first | (go_at_call 115; refine (sign_any 52 11 true neg (by decide) _).mono ?_; rintro x v1 ⟨rfl, rfl⟩) | (go_at_call 116; refine (top_any 52 11 2047 (by decide) _).mono ?_; rintro x v1 ⟨rfl, rfl⟩))
                all_goals
                  go_wp2_with fail
                  go_ret
                  refine ⟨ret_int ?_, ((hB7.q.cells _ _).cells _ _).drew⟩
                  rw [HX.out, HWD.out, Nat.min_eq_right]
                  have := HX1.out
                  omega
              · have hiz : ¬ (2047 : Int) ≤ (X : Int) := by omega
                have hib : decide ((2047 : Int) ≤ (X : Int)) = false := decide_eq_false hiz
                go_wp2_with fail
                have w2 : IntKind.u64.wrap 4503599627370496 = 4503599627370496 := by decide
                have w3 : IntKind.u64.wrap 4503599627370495 = 4503599627370495 := by decide
                have hmask : bits .and .u64 (K' : Int) 4503599627370495 = ((K' % 4503599627370496 : Nat) : Int) := by
                  have : bits .and .u64 (K' : Int) 4503599627370495 = (K' : Int) % 4503599627370496 := by go_bits2
                  rw [this]; rfl
                obtain ⟨fr, hfr⟩ : ∃ fr, fr = K' % 4503599627370496 := ⟨_, rfl⟩
                rw [← hfr] at hmask
                have hfb : fr < 4503599627370496 := by omega
                have HKF : Hid (K' = 4503599627370496 + fr) := by show K' = 4503599627370496 + fr; omega
                have hxb : IntKind.u64.wrap (X : Int) = (X : Int) := u64_wrap (by omega) (by omega)
                obtain ⟨Y, hY⟩ : ∃ Y, Y = X * 4503599627370496 := ⟨_, rfl⟩
                have hyw : IntKind.u64.wrap ((X : Int) * 4503599627370496) = (Y : Int) := by
                  rw [u64_wrap (by omega) (by omega), hY]; omega
                have ho1 := or_word_64 (neg := neg) (r := Y) (by omega)
                have ho2 := or_word2_64 (neg := neg) (x := X) (fr := fr) (by omega) hfb
                rw [← hY] at ho2
                obtain ⟨W1, hW1⟩ : ∃ W1 : Nat, W1 = Ieee.double.word neg Y := ⟨_, rfl⟩
                obtain ⟨W2, hW2⟩ : ∃ W2 : Nat, W2 = Ieee.double.word neg (Y + fr) := ⟨_, rfl⟩
                rw [← hW1] at ho1 ho2
                rw [← hW2] at ho2
                have HW2 : Hid _ := hW2
                have HY : Hid _ := hY
                clear hW1 hW2 hY hfr hfb hinf
                go_region_held3 (fun w' => w'.cell? ⟨w.heap.size, 0, none⟩ = some (.int .i64 52) ∧ w'.cell? ⟨w.heap.size, 1, none⟩ = some (.int .i64 11) ∧ w'.cell? ⟨w.heap.size + 1, 1, none⟩ = some (.bool neg)) (first | (simp [World.cell?_alloc_some, b0, b1, bk]; done) | (simp [World.cell?_alloc_some, b0, b1, bk, go_sem]; done) | go_keep) (first | (go_at_call 115; refine (sign_any 52 11 true neg (by decide) _).mono ?_; rintro x v1 ⟨rfl, rfl⟩) | (go_at_call 116; refine (top_any 52 11 2047 (by decide) _).mono ?_; rintro x v1 ⟨rfl, rfl⟩))
                all_goals
                  go_wp2_with fail
                  go_ret
                  refine ⟨ret_int ?_, (hB7.q.cells _ _).drew⟩
                  rw [HX.out, HW2.out, Nat.min_eq_left]
                  · have h1 := HX1.out
                    have h2 := HKF.out
                    have h3 := HY.out
                    congr 2
                    omega
                  · have h1 := HX1.out
                    have h2 := HKF.out
                    omega
end Go.Proofs.YtieojgblamkgoaaGreatDoor
/- What the reference's Round returns at binary64 of whatever number; its Wide and Narrow. -/
namespace Go.Proofs.YtieojgblamkgoaaGreatDoor
open Go.RowKit

/-- The word of binary64. -/
def roundD : RNum → Nat
  | ⟨none⟩ => 9221120237041090560
  | ⟨some (.inl s)⟩ => Ieee.double.word s 9218868437227405312
  | ⟨some (.inr (s, n, e, m))⟩ => Ieee.double.word s (rungOf Ieee.double (2 * n + m.toNat) (e - 1))
def fitsD : RNum → Prop
  | ⟨some (.inr (_, n, e, m))⟩ => blen n ≤ 6000 ∧ -5000 ≤ e ∧ e ≤ 5000 ∧ (m = true → n ≠ 0 ∧ e + 1 ≤ lastOf Ieee.double n e)
  | _ => True

set_option maxHeartbeats 4000000 in
set_option maxRecDepth 1000000 in
theorem round64_any (v : Value) (x : RNum) (w : World) (hx : NumAt w v x) (hf : fitsD x) :
    Calls Tryz.prog 101 #[.agg #[.int .i64 52, .int .i64 11], v] w fun e w' => e = .returned (.int .u64 (roundD x : Int)) ∧ Q w w' := by
  cases x using RNum.rec3 with
  | nan =>
    obtain ⟨b, e, m, rfl⟩ := hx
    go_enter Tryz.func101, Tryz.ntmps101
    go_wp2_with fail
    refine (fmade_any 52 11 9221120237041090560 (by decide) _).mono ?_
    rintro e w1 ⟨rfl, q1⟩
    go_wp2_with fail
    go_ret
    exact ⟨rfl, (((Q.refl w).cells _ _).cells _ _).trans q1⟩
  | inf s =>
    obtain ⟨e, m, rfl⟩ := hx
    have w4 : IntKind.u64.wrap 9218868437227405312 = 9218868437227405312 := by decide
    have hor := or_word_64 (neg := s) (r := 9218868437227405312) (by decide)
    rw [show ((9218868437227405312 : Nat) : Int) = 9218868437227405312 from rfl] at hor
    obtain ⟨Wd, hWd⟩ : ∃ Wd : Nat, Wd = Ieee.double.word s 9218868437227405312 := ⟨_, rfl⟩
    rw [← hWd] at hor
    have HWD : Hid _ := hWd
    clear hWd
    go_enter Tryz.func101, Tryz.ntmps101
    go_wp2_with fail
    go_region_held3 (fun w' => w'.cell? ⟨w.heap.size, 0, none⟩ = some (.int .i64 52) ∧ w'.cell? ⟨w.heap.size, 1, none⟩ = some (.int .i64 11) ∧ w'.cell? ⟨w.heap.size + 1, 1, none⟩ = some (.bool s)) (first | (simp [go_sem]; done) | go_keep) (first | (go_at_call 115; refine (sign_any 52 11 true s (by decide) _).mono ?_; rintro x v1 ⟨rfl, rfl⟩) | (go_at_call 116; refine (top_any 52 11 2047 (by decide) _).mono ?_; rintro x v1 ⟨rfl, rfl⟩))
    all_goals
      go_wp2_with fail
      go_ret
      exact ⟨ret_int (by rw [HWD.out]; rfl), (((((Q.refl w).cells _ _).cells _ _).cells _ _).cells _ _).drew⟩
  | fin s n e m =>
    obtain ⟨nv, rfl, hn⟩ := hx
    exact round64_fin s nv n e m w hn hf.1 hf.2.1 hf.2.2.1 hf.2.2.2
end Go.Proofs.YtieojgblamkgoaaGreatDoor
/- Plain facts: sums, products and quotients of two samples, rounded to binary64 and then to binary32: it does not show. -/
namespace Go.Proofs.YtieojgblamkgoaaGreatDoor
open Go.RowKit

/-- No sum of two samples lies near a half-way number without being one. -/
theorem sum_mid_le {s t : Bool} {m n k1 k2 Z : Nat} (hm : m < 16777216) (hn : n < 16777216) (hk : k2 ≤ k1) (h2 : 925 ≤ k2) (hZe : Z = (Ieee.signed s m k1 + Ieee.signed t n k2).natAbs) (hK : 0 < lostK Z)
    (hmod : rne Z (lostK Z) * 2 ^ lostK Z % 2 ^ max (Z.log2 - 23) 925 = 2 ^ (max (Z.log2 - 23) 925 - 1)) : rne Z (lostK Z) * 2 ^ lostK Z = Z := by
  obtain ⟨n1, n2⟩ := rne_near Z (lostK Z)
  have h0 : Z ≠ 0 := by intro h0; rw [h0] at hK; exact absurd hK (by decide)
  have hL : Z.log2 = 52 + lostK Z := by unfold lostK at *; omega
  have hd : 2 ^ k2 ∣ Z := by
    rw [hZe, ← Int.ofNat_dvd_left]
    exact Int.dvd_add (signed_dvd s m hk) (signed_dvd t n (Nat.le_refl _))
  rcases Nat.lt_or_ge Z (2 ^ (53 + k2)) with g | g
  · have hl := (Nat.log2_lt h0).2 g
    obtain ⟨o, ho⟩ := Nat.dvd_trans (Nat.pow_dvd_pow 2 (show lostK Z ≤ k2 by omega)) hd
    have e := rne_exact o (lostK Z)
    rw [Nat.mul_comm, ← ho] at e
    rw [e, Nat.mul_comm, ← ho]
  · exfalso
    have hl := (Nat.le_log2 h0).2 g
    rw [show max (Z.log2 - 23) 925 = 29 + lostK Z by omega, show 29 + lostK Z - 1 = 28 + lostK Z by omega, Nat.pow_add, Nat.pow_add, Nat.mul_mod_mul_right] at hmod
    have hE := Nat.two_pow_pos (lostK Z)
    have hc := Nat.eq_of_mul_eq_mul_right hE hmod
    have hlo := Nat.log2_self_le h0
    rw [hL, Nat.pow_add] at hlo
    have hY : n * 2 ^ k2 < 2 ^ 23 * 2 ^ lostK Z := by
      have a1 : n * 2 ^ k2 < 2 ^ 24 * 2 ^ k2 := Nat.mul_lt_mul_of_pos_right hn (Nat.two_pow_pos _)
      rw [← Nat.pow_add] at a1 ⊢
      exact Nat.lt_of_lt_of_le a1 (Nat.pow_le_pow_right (by decide) (by omega))
    have hX : Z ≤ m * 2 ^ k1 + n * 2 ^ k2 ∧ m * 2 ^ k1 ≤ Z + n * 2 ^ k2 := by
      have x1 := signed_abs s m k1
      have x2 := signed_abs t n k2
      omega
    have hk1 : 29 + lostK Z ≤ k1 := by
      rcases Nat.lt_or_ge k1 (29 + lostK Z) with j | j
      · exfalso
        have a1 : m * 2 ^ k1 ≤ 16777215 * (2 ^ 28 * 2 ^ lostK Z) := by
          rw [← Nat.pow_add]
          exact Nat.mul_le_mul (by omega) (Nat.pow_le_pow_right (by decide) (by omega))
        generalize m * 2 ^ k1 = xE at hX a1
        generalize n * 2 ^ k2 = yE at hX hY
        generalize 2 ^ lostK Z = E at hlo hY a1
        omega
      · exact j
    obtain ⟨x, hx⟩ : ∃ x, m * 2 ^ k1 = x * 2 ^ 29 * 2 ^ lostK Z := ⟨m * 2 ^ (k1 - (29 + lostK Z)), by
      rw [Nat.mul_assoc, Nat.mul_assoc, ← Nat.pow_add, ← Nat.pow_add, show k1 - (29 + lostK Z) + (29 + lostK Z) = k1 by omega]⟩
    rw [hx] at hX
    obtain ⟨c, hcc⟩ : ∃ c, c = rne Z (lostK Z) := ⟨_, rfl⟩
    rw [← hcc] at n1 n2 hc
    have u1 : c * 2 ^ lostK Z ≤ (x * 2 ^ 29 + 2 ^ 24) * 2 ^ lostK Z := by
      rw [Nat.add_mul]
      clear hc hcc hx hlo
      generalize c * 2 ^ lostK Z = cE at n1 n2 ⊢
      generalize x * 2 ^ 29 * 2 ^ lostK Z = xE at hX ⊢
      generalize n * 2 ^ k2 = yE at hX hY
      generalize 2 ^ lostK Z = E at n1 n2 hY ⊢
      omega
    have u2 : x * 2 ^ 29 * 2 ^ lostK Z ≤ (c + 2 ^ 24) * 2 ^ lostK Z := by
      rw [Nat.add_mul]
      clear hc hcc hx hlo
      generalize c * 2 ^ lostK Z = cE at n1 n2 ⊢
      generalize x * 2 ^ 29 * 2 ^ lostK Z = xE at hX ⊢
      generalize n * 2 ^ k2 = yE at hX hY
      generalize 2 ^ lostK Z = E at n1 n2 hY ⊢
      omega
    have v1 := Nat.le_of_mul_le_mul_right u1 hE
    have v2 := Nat.le_of_mul_le_mul_right u2 hE
    omega
theorem sum_mid {s t : Bool} {m n k1 k2 Z : Nat} (hm : m < 16777216) (hn : n < 16777216) (h1 : 925 ≤ k1) (h2 : 925 ≤ k2) (hZe : Z = (Ieee.signed s m k1 + Ieee.signed t n k2).natAbs) (hK : 0 < lostK Z)
    (hmod : rne Z (lostK Z) * 2 ^ lostK Z % 2 ^ max (Z.log2 - 23) 925 = 2 ^ (max (Z.log2 - 23) 925 - 1)) : rne Z (lostK Z) * 2 ^ lostK Z = Z := by
  rcases Nat.le_total k2 k1 with g | g
  · exact sum_mid_le hm hn g h2 hZe hK hmod
  · rw [Int.add_comm] at hZe
    exact sum_mid_le hn hm g h1 hZe hK hmod

/-- No quotient of two samples lies near a half-way number without being one. -/
theorem quo_mid {m n A K : Nat} (hn0 : 0 < n) (hn : n < 16777216) (hA : 37 ≤ A) (hK : K = 8 ∨ K = 9) (hd : 2 ^ (K + 28) ∣ rne (sqV m n A) K * 2 ^ K) : rne (sqV m n A) K * 2 ^ K = sqV m n A := by
  obtain ⟨n1, n2⟩ := rne_near (sqV m n A) K
  have hE : 2 ^ K ≤ 512 := by rcases hK with h | h <;> rw [h] <;> decide
  have hd36 : 2 ^ 36 ∣ rne (sqV m n A) K * 2 ^ K := Nat.dvd_trans (Nat.pow_dvd_pow 2 (by omega)) hd
  obtain ⟨C, hC⟩ : ∃ C, C = rne (sqV m n A) K * 2 ^ K := ⟨_, rfl⟩
  rw [← hC] at n1 n2 hd36 ⊢
  have dm := Nat.div_add_mod (m * 2 ^ A) n
  have rm := Nat.mod_lt (m * 2 ^ A) hn0
  have hS : sqV m n A = 2 * (m * 2 ^ A / n) + if m * 2 ^ A % n = 0 then 0 else 1 := rfl
  obtain ⟨S, hSe⟩ : ∃ S, S = sqV m n A := ⟨_, rfl⟩
  rw [← hSe] at n1 n2 hS ⊢
  obtain ⟨W, hW⟩ : ∃ W, m * 2 ^ A = 2 ^ 36 * W := by
    refine ⟨m * 2 ^ (A - 36), ?_⟩
    rw [Nat.mul_left_comm, ← Nat.pow_add, show 36 + (A - 36) = A by omega]
  obtain ⟨v, hv⟩ := hd36
  obtain ⟨q, hq⟩ : ∃ q, q = m * 2 ^ A / n := ⟨_, rfl⟩
  obtain ⟨r, hr⟩ : ∃ r, r = m * 2 ^ A % n := ⟨_, rfl⟩
  rw [← hq, ← hr] at dm hS
  rw [← hr] at rm
  -- n * S lies within n of 2 m 2^A
  have s1 : n * S = 2 * (n * q) + n * (if r = 0 then 0 else 1) := by
    rw [hS, Nat.mul_add, Nat.mul_left_comm]
  have s2 : n * (if r = 0 then 0 else 1) = if r = 0 then 0 else n := by split <;> simp
  rw [s2] at s1
  have c1 : n * C ≤ n * (S + 256) := Nat.mul_le_mul_left _ (by omega)
  have c2 : n * S ≤ n * (C + 256) := Nat.mul_le_mul_left _ (by omega)
  rw [Nat.mul_add] at c1 c2
  have e1 : n * C = 2 ^ 36 * (n * v) := by rw [hv, Nat.mul_left_comm]
  have key : n * v = 2 * W := by
    generalize n * v = nv at e1
    generalize n * C = nC at *
    generalize n * S = nS at *
    generalize n * q = nq at *
    split at s1 <;> omega
  -- so the quotient is exact
  have e2 : n * C = 2 * (m * 2 ^ A) := by rw [e1, key, hW]; omega
  have e3 : n * (C / 2) = m * 2 ^ A := by
    have : C = 2 * (C / 2) := by omega
    have e4 : n * C = 2 * (n * (C / 2)) := by rw [← Nat.mul_left_comm, ← this]
    omega
  have hr0 : r = 0 := by rw [hr, ← e3, Nat.mul_mod_right]
  have hq2 : q = C / 2 := by rw [hq, ← e3, Nat.mul_div_cancel_left _ hn0]
  rw [hS, hr0, if_pos rfl, hq2]
  omega
end Go.Proofs.YtieojgblamkgoaaGreatDoor
/- Plain facts: the reference's sums, products and quotients in binary64, made narrow, are those of samples. -/
namespace Go.Proofs.YtieojgblamkgoaaGreatDoor
open Go.RowKit

/-- A datum, or none, as a number of the reference; as a word of binary64. -/
def optR : Option Ieee.Datum → RNum
  | none => .nan
  | some d => datumR d
def toldW : Option Ieee.Datum → Nat
  | none => 9221120237041090560
  | some (.nan ..) => 9221120237041090560
  | some d => Ieee.double.write d
theorem roundD_fin' (s : Bool) (n : Nat) (e : Int) : roundD (.fin s n e false) = Ieee.double.nearest s n e := by
  show Ieee.double.word s (rungOf Ieee.double (2 * n + 0) (e - 1)) = _
  rw [nearest_rung, Nat.add_zero]
  have := rung_scale Ieee.double n 1 (e - 1)
  rw [Nat.pow_one, Nat.mul_comm n 2] at this
  rw [this, show e - 1 + ((1 : Nat) : Int) = e by omega]
theorem roundD_opt (o : Option Ieee.Datum) : roundD (optR o) = toldW o := by
  cases o with
  | none => rfl
  | some d =>
    cases d with
    | nan s t => rfl
    | infinity s =>
      show Ieee.double.word s 9218868437227405312 = Ieee.double.word s Ieee.double.infRung
      rw [inf64]
    | number s m p => exact roundD_fin' s m p
theorem plusFin_datum (s t : Bool) (X Y : Nat) (b : Int) :
    plusFin s t X Y b = .fin (if (if s = true then -(X : Int) else X) + (if t = true then -(Y : Int) else Y) = 0 then s && t else decide ((if s = true then -(X : Int) else X) + (if t = true then -(Y : Int) else Y) < 0))
      ((if s = true then -(X : Int) else X) + (if t = true then -(Y : Int) else Y)).natAbs b false := by
  unfold plusFin
  by_cases h : s = t
  · subst h
    rw [if_pos rfl]
    cases s
    · simp only [Bool.false_eq_true, if_false]
      rw [show ((X : Int) + (Y : Int)).natAbs = X + Y by omega]
      by_cases h0 : (X : Int) + (Y : Int) = 0
      · rw [if_pos h0]; rfl
      · rw [if_neg h0, decide_eq_false (by omega)]
    · simp only [if_true]
      rw [show (-(X : Int) + -(Y : Int)).natAbs = X + Y by omega]
      by_cases h0 : -(X : Int) + -(Y : Int) = 0
      · rw [if_pos h0]; rfl
      · rw [if_neg h0, decide_eq_true (by omega)]
  · rw [if_neg h]
    cases s <;> cases t <;> simp only [Bool.false_eq_true, if_false, if_true]
    · exact absurd rfl h
    · by_cases hxy : X = Y
      · rw [if_pos hxy, if_pos (by omega : (X : Int) + -(Y : Int) = 0), show ((X : Int) + -(Y : Int)).natAbs = 0 by omega]; rfl
      · rw [if_neg hxy]
        by_cases hlt : Y < X
        · rw [if_pos hlt, if_neg (by omega : ¬ (X : Int) + -(Y : Int) = 0), decide_eq_false (by omega), show ((X : Int) + -(Y : Int)).natAbs = X - Y by omega]
        · rw [if_neg hlt, if_neg (by omega : ¬ (X : Int) + -(Y : Int) = 0), decide_eq_true (by omega), show ((X : Int) + -(Y : Int)).natAbs = Y - X by omega]
    · by_cases hxy : X = Y
      · rw [if_pos hxy, if_pos (by omega : -(X : Int) + (Y : Int) = 0), show (-(X : Int) + (Y : Int)).natAbs = 0 by omega]; rfl
      · rw [if_neg hxy]
        by_cases hlt : Y < X
        · rw [if_pos hlt, if_neg (by omega : ¬ -(X : Int) + (Y : Int) = 0), decide_eq_true (by omega), show (-(X : Int) + (Y : Int)).natAbs = X - Y by omega]
        · rw [if_neg hlt, if_neg (by omega : ¬ -(X : Int) + (Y : Int) = 0), decide_eq_false (by omega), show (-(X : Int) + (Y : Int)).natAbs = Y - X by omega]
    · exact absurd rfl h
theorem sum_opt (d d' : Ieee.Datum) : plusR (datumR d) (datumR d') = optR (d.sum d') := by
  cases d with
  | nan s t => cases d' <;> rfl
  | infinity s =>
    cases d' with
    | nan t f => rfl
    | infinity t =>
      show (if s = t then RNum.inf s else .nan) = optR (if s = t then some (.infinity s) else none)
      by_cases h : s = t
      · rw [if_pos h, if_pos h]; rfl
      · rw [if_neg h, if_neg h]; rfl
    | number t n j => rfl
  | number s m i =>
    cases d' with
    | nan t f => rfl
    | infinity t => rfl
    | number t n j =>
      show plusFin s t (m * 2 ^ (i - min i j).toNat) (n * 2 ^ (j - min i j).toNat) (min i j) = _
      rw [plusFin_datum, ← signed_eq, ← signed_eq]
      rfl
theorem times_opt (d d' : Ieee.Datum) : timesR (datumR d) (datumR d') = optR (d.product d') := by
  cases d with
  | nan s t => cases d' <;> rfl
  | infinity s =>
    cases d' with
    | nan t f => rfl
    | infinity t =>
      show RNum.inf (s != t) = RNum.inf (s ^^ t)
      rw [bne_xor]
    | number t n j =>
      show (if zeroB (.fin t n j false) = true then RNum.nan else .inf (s != t)) = optR (if n = 0 then none else some (Ieee.Datum.infinity (s ^^ t)))
      rw [zeroB_fin, bne_xor]
      by_cases h : n = 0
      · rw [if_pos h, decide_eq_true h, if_pos rfl]; rfl
      · rw [if_neg h, decide_eq_false h, if_neg (by decide)]; rfl
  | number s m i =>
    cases d' with
    | nan t f => rfl
    | infinity t =>
      show (if zeroB (.fin s m i false) = true then RNum.nan else .inf (s != t)) = optR (if m = 0 then none else some (Ieee.Datum.infinity (t ^^ s)))
      rw [zeroB_fin, bne_xor, Bool.xor_comm]
      by_cases h : m = 0
      · rw [if_pos h, decide_eq_true h, if_pos rfl]; rfl
      · rw [if_neg h, decide_eq_false h, if_neg (by decide)]; rfl
    | number t n j =>
      show RNum.fin (s != t) (m * n) (i + j) false = .fin (s ^^ t) (m * n) (i + j) false
      rw [bne_xor]

/-- What a sample, wide, is read as. -/
theorem wideW_cases (a : Nat) : (nanN a = true ∧ (Ieee.double.read (wideW a)).isNaN = true) ∨ (rung32 a = 2139095040 ∧ Ieee.double.read (wideW a) = .infinity (sgn32 a)) ∨
    (rung32 a < 2139095040 ∧ wideW a = wideN a ∧ ∃ M P, Ieee.double.read (wideW a) = .number (sgn32 a) M P ∧ -1074 ≤ P ∧ Ieee.signed (sgn32 a) M (P + 1074).toNat = sampleZ a) := by
  cases h : nanN a
  · have e : wideW a = wideN a := by unfold wideW; rw [h]; rfl
    have h' := h
    rw [nanN_rung] at h'
    have h' := of_decide_eq_false h'
    rcases Nat.lt_or_ge (rung32 a) 2139095040 with g | g
    · obtain ⟨r, s, v⟩ := wide_fin g
      refine Or.inr (Or.inr ⟨g, e, _, _, by rw [e, read_fin64 r, s], by omega, ?_⟩)
      rw [← s, signed_read, v]
    · exact Or.inr (Or.inl ⟨by omega, by rw [e]; exact wide_read_inf (by omega)⟩)
  · have e : wideW a = 9221120237041090560 := by unfold wideW; rw [h]; rfl
    exact Or.inl ⟨rfl, by rw [e]; decide⟩
theorem made_narrow : toldD (some (Ieee.double.read 9221120237041090560)) = 2143289344 := by decide +kernel
theorem sampleZ_lt {a : Nat} (h : rung32 a < 2139095040) : (sampleZ a).natAbs < 2 ^ capJ := by
  unfold sampleZ; rw [signed_abs]
  have := mag_lt32 (rung32 a)
  have hp : plc32 (rung32 a) ≤ 253 := plc_le32 h
  exact cap_units (e := 24) (by omega) (by omega)
/-- Finite sums. -/
theorem dbl_sum_fin {a b : Nat} {t : Bool} {M N : Nat} {P Q' : Int} (ha : rung32 a < 2139095040) (hb : rung32 b < 2139095040) (hP : -1074 ≤ P) (hQ : -1074 ≤ Q')
    (hX : Ieee.signed (sgn32 a) M (P + 1074).toNat = sampleZ a) (hY : Ieee.signed t N (Q' + 1074).toNat = Ieee.signed t (mag32 (rung32 b)) (plc32 (rung32 b) + 925)) :
    toldD (some (Ieee.double.read (toldW ((Ieee.Datum.number (sgn32 a) M P).sum (.number t N Q'))))) = toldD ((Ieee.Datum.number (sgn32 a) (mag32 (rung32 a)) (-149 + (plc32 (rung32 a) : Int))).sum (.number t (mag32 (rung32 b)) (-149 + (plc32 (rung32 b) : Int)))) := by
  obtain ⟨N1, b1, e1, e2⟩ := sum_units (sgn32 a) t M N P Q' hP hQ
  obtain ⟨N2, b2, f1, f2⟩ := sum_units (sgn32 a) t (mag32 (rung32 a)) (mag32 (rung32 b)) (-149 + (plc32 (rung32 a) : Int)) (-149 + (plc32 (rung32 b) : Int)) (by omega) (by omega)
  rw [hX, hY] at e1 e2
  rw [show (-149 + (plc32 (rung32 a) : Int) + 1074).toNat = plc32 (rung32 a) + 925 by omega, show (-149 + (plc32 (rung32 b) : Int) + 1074).toNat = plc32 (rung32 b) + 925 by omega] at f1 f2
  have hZe : sampleZ a + Ieee.signed t (mag32 (rung32 b)) (plc32 (rung32 b) + 925) = Ieee.signed (sgn32 a) (mag32 (rung32 a)) (plc32 (rung32 a) + 925) + Ieee.signed t (mag32 (rung32 b)) (plc32 (rung32 b) + 925) := rfl
  rw [hZe] at e1 e2
  rw [e1, f1, toldD_num, f2]
  obtain ⟨Z, hZ⟩ : ∃ Z, Z = (Ieee.signed (sgn32 a) (mag32 (rung32 a)) (plc32 (rung32 a) + 925) + Ieee.signed t (mag32 (rung32 b)) (plc32 (rung32 b) + 925)).natAbs := ⟨_, rfl⟩
  show toldD (some (Ieee.double.read (Ieee.double.nearest _ N1 b1))) = _
  rw [nearest_rung, e2, ← hZ]
  have l1 := sampleZ_lt ha
  have l2 : (Ieee.signed t (mag32 (rung32 b)) (plc32 (rung32 b) + 925)).natAbs < 2 ^ capJ := by
    have := sampleZ_lt hb
    unfold sampleZ at this
    rw [signed_abs] at this ⊢
    exact this
  have l1' : (Ieee.signed (sgn32 a) (mag32 (rung32 a)) (plc32 (rung32 a) + 925)).natAbs < 2 ^ capJ := l1
  exact told_twice (cap_log (by rw [hZ]; omega)) (fun hK hm => sum_mid (mag_lt32 _) (mag_lt32 _) (by omega) (by omega) hZ hK hm)
theorem add_dbl (a b : Nat) : toldD (some (Ieee.double.read (toldW ((Ieee.double.read (wideW a)).sum (Ieee.double.read (wideW b)))))) = toldD ((Ieee.single.read a).sum (Ieee.single.read b)) := by
  rcases wideW_cases a with ⟨h, e⟩ | ⟨h, e⟩ | ⟨h, _, M, P, e, hP, hX⟩
  · rw [sum_nan1 e, sum_nan1 (read32_nan h)]; exact made_narrow
  · rcases wideW_cases b with ⟨k, f⟩ | ⟨k, f⟩ | ⟨k, _, N, Q', f, hQ, hY⟩
    · rw [sum_nan2 f, sum_nan2 (read32_nan k)]; exact made_narrow
    · rw [e, f, read_inf32 h, read_inf32 k]
      show toldD (some (Ieee.double.read (toldW (if sgn32 a = sgn32 b then some (Ieee.Datum.infinity (sgn32 a)) else none)))) = toldD (if sgn32 a = sgn32 b then some (Ieee.Datum.infinity (sgn32 a)) else none)
      by_cases c : sgn32 a = sgn32 b
      · rw [if_pos c]
        show toldD (some (Ieee.double.read (Ieee.double.write (.infinity (sgn32 a))))) = _
        rw [write_inf, told_inf]
        show _ = Ieee.single.word (sgn32 a) Ieee.single.infRung
        rw [inf32]
      · rw [if_neg c]; exact made_narrow
    · rw [e, f, read_inf32 h, read_fin32 k]
      show toldD (some (Ieee.double.read (Ieee.double.write (.infinity (sgn32 a))))) = Ieee.single.word (sgn32 a) Ieee.single.infRung
      rw [write_inf, told_inf, inf32]
  · rcases wideW_cases b with ⟨k, f⟩ | ⟨k, f⟩ | ⟨k, _, N, Q', f, hQ, hY⟩
    · rw [sum_nan2 f, sum_nan2 (read32_nan k)]; exact made_narrow
    · rw [e, f, read_fin32 h, read_inf32 k]
      show toldD (some (Ieee.double.read (Ieee.double.write (.infinity (sgn32 b))))) = Ieee.single.word (sgn32 b) Ieee.single.infRung
      rw [write_inf, told_inf, inf32]
    · rw [e, f, read_fin32 h, read_fin32 k]
      exact dbl_sum_fin h k hP hQ hX hY
theorem sub_dbl (a b : Nat) : toldD (some (Ieee.double.read (toldW ((Ieee.double.read (wideW a)).sum (Ieee.double.read (wideW b)).opposite)))) = toldD ((Ieee.single.read a).sum (Ieee.single.read b).opposite) := by
  rcases wideW_cases a with ⟨h, e⟩ | ⟨h, e⟩ | ⟨h, _, M, P, e, hP, hX⟩
  · rw [sum_nan1 e, sum_nan1 (read32_nan h)]; exact made_narrow
  · rcases wideW_cases b with ⟨k, f⟩ | ⟨k, f⟩ | ⟨k, _, N, Q', f, hQ, hY⟩
    · rw [sum_nan2 (opp_nan f), sum_nan2 (opp_nan (read32_nan k))]; exact made_narrow
    · rw [e, f, read_inf32 h, read_inf32 k]
      show toldD (some (Ieee.double.read (toldW (if sgn32 a = !sgn32 b then some (Ieee.Datum.infinity (sgn32 a)) else none)))) = toldD (if sgn32 a = !sgn32 b then some (Ieee.Datum.infinity (sgn32 a)) else none)
      by_cases c : sgn32 a = !sgn32 b
      · rw [if_pos c]
        show toldD (some (Ieee.double.read (Ieee.double.write (.infinity (sgn32 a))))) = _
        rw [write_inf, told_inf]
        show _ = Ieee.single.word (sgn32 a) Ieee.single.infRung
        rw [inf32]
      · rw [if_neg c]; exact made_narrow
    · rw [e, f, read_inf32 h, read_fin32 k]
      show toldD (some (Ieee.double.read (Ieee.double.write (.infinity (sgn32 a))))) = Ieee.single.word (sgn32 a) Ieee.single.infRung
      rw [write_inf, told_inf, inf32]
  · rcases wideW_cases b with ⟨k, f⟩ | ⟨k, f⟩ | ⟨k, _, N, Q', f, hQ, hY⟩
    · rw [sum_nan2 (opp_nan f), sum_nan2 (opp_nan (read32_nan k))]; exact made_narrow
    · rw [e, f, read_fin32 h, read_inf32 k]
      show toldD (some (Ieee.double.read (Ieee.double.write (.infinity (!sgn32 b))))) = Ieee.single.word (!sgn32 b) Ieee.single.infRung
      rw [write_inf, told_inf, inf32]
    · rw [e, f, read_fin32 h, read_fin32 k]
      refine dbl_sum_fin h k hP hQ hX ?_
      rw [signed_neg, signed_neg, hY]; rfl
theorem mul_dbl (a b : Nat) : toldD (some (Ieee.double.read (toldW ((Ieee.double.read (wideW a)).product (Ieee.double.read (wideW b)))))) = toldD ((Ieee.single.read a).product (Ieee.single.read b)) := by
  rcases wideW_cases a with ⟨h, e⟩ | ⟨h, e⟩ | ⟨h, ea, M, P, e, hP, hX⟩
  · rw [product_nan1 e, product_nan1 (read32_nan h)]; exact made_narrow
  · rcases wideW_cases b with ⟨k, f⟩ | ⟨k, f⟩ | ⟨k, eb, N, Q', f, hQ, hY⟩
    · rw [product_nan2 f, product_nan2 (read32_nan k)]; exact made_narrow
    · rw [e, f, read_inf32 h, read_inf32 k]
      show toldD (some (Ieee.double.read (Ieee.double.write (.infinity (sgn32 a ^^ sgn32 b))))) = Ieee.single.word (sgn32 a ^^ sgn32 b) Ieee.single.infRung
      rw [write_inf, told_inf, inf32]
    · rw [e, eb, read_fin64 (wide_fin k).1, (wide_fin k).2.1, read_inf32 h, read_fin32 k]
      show toldD (some (Ieee.double.read (toldW (if mag64 (rung64 (wideN b)) = 0 then none else some (Ieee.Datum.infinity (sgn32 a ^^ sgn32 b)))))) = toldD (if mag32 (rung32 b) = 0 then none else some (Ieee.Datum.infinity (sgn32 a ^^ sgn32 b)))
      by_cases z : mag32 (rung32 b) = 0
      · rw [if_pos z, if_pos ((wide_mag_zero k).2 z)]; exact made_narrow
      · rw [if_neg z, if_neg (fun c => z ((wide_mag_zero k).1 c))]
        show toldD (some (Ieee.double.read (Ieee.double.write (.infinity (sgn32 a ^^ sgn32 b))))) = Ieee.single.word (sgn32 a ^^ sgn32 b) Ieee.single.infRung
        rw [write_inf, told_inf, inf32]
  · rcases wideW_cases b with ⟨k, f⟩ | ⟨k, f⟩ | ⟨k, eb, N, Q', f, hQ, hY⟩
    · rw [product_nan2 f, product_nan2 (read32_nan k)]; exact made_narrow
    · rw [f, ea, read_fin64 (wide_fin h).1, (wide_fin h).2.1, read_fin32 h, read_inf32 k]
      show toldD (some (Ieee.double.read (toldW (if mag64 (rung64 (wideN a)) = 0 then none else some (Ieee.Datum.infinity (sgn32 b ^^ sgn32 a)))))) = toldD (if mag32 (rung32 a) = 0 then none else some (Ieee.Datum.infinity (sgn32 b ^^ sgn32 a)))
      by_cases z : mag32 (rung32 a) = 0
      · rw [if_pos z, if_pos ((wide_mag_zero h).2 z)]; exact made_narrow
      · rw [if_neg z, if_neg (fun c => z ((wide_mag_zero h).1 c))]
        show toldD (some (Ieee.double.read (Ieee.double.write (.infinity (sgn32 b ^^ sgn32 a))))) = Ieee.single.word (sgn32 b ^^ sgn32 a) Ieee.single.infRung
        rw [write_inf, told_inf, inf32]
    · have hp := prod_units h k
      have hp' : ((Ieee.double.read (wideN a)).product (Ieee.double.read (wideN b))).map Ieee.double.write = some (wordOf (sgn32 a ^^ sgn32 b) (prodZ a b)) := hp
      rw [ea, eb]
      have pa := plc_le32 h
      have pb := plc_le32 k
      have hlt := prod_lt a b
      obtain ⟨u1, u2, u3⟩ := units_word (s := sgn32 a ^^ sgn32 b) (m := mag32 (rung32 a) * mag32 (rung32 b)) (k := plc32 (rung32 a) + plc32 (rung32 b) + 776) (by omega) (by omega)
      have u1 : rung64 (wordOf (sgn32 a ^^ sgn32 b) (prodZ a b)) < 9218868437227405312 := u1
      have u2 : sgn64 (wordOf (sgn32 a ^^ sgn32 b) (prodZ a b)) = (sgn32 a ^^ sgn32 b) := u2
      have u3 : sval64 (wordOf (sgn32 a ^^ sgn32 b) (prodZ a b)) = prodZ a b := u3
      cases hd : (Ieee.double.read (wideN a)).product (Ieee.double.read (wideN b)) with
      | none => rw [hd] at hp'; cases hp'
      | some d =>
        rw [hd] at hp'
        have hw : toldW (some d) = wordOf (sgn32 a ^^ sgn32 b) (prodZ a b) := by
          have : Ieee.double.write d = wordOf (sgn32 a ^^ sgn32 b) (prodZ a b) := by injection hp'
          rw [← this]
          have hn := product_num hd
          cases d with
          | nan s t => exact absurd hn (by simp [Ieee.Datum.isNaN])
          | infinity s => rfl
          | number s m p => rfl
        have hv := val_abs (wordOf (sgn32 a ^^ sgn32 b) (prodZ a b))
        have hpz : (prodZ a b).natAbs = mag32 (rung32 a) * mag32 (rung32 b) * 2 ^ (plc32 (rung32 a) + plc32 (rung32 b) + 776) := by unfold prodZ; rw [signed_abs]
        rw [u3, hpz] at hv
        rw [hw, read_fin64 u1, u2, toldD_num, rung_word64, ← hv, rung_scale, read_fin32 h, read_fin32 k]
        show _ = toldD (some (.number (sgn32 a ^^ sgn32 b) (mag32 (rung32 a) * mag32 (rung32 b)) (-149 + (plc32 (rung32 a) : Int) + (-149 + (plc32 (rung32 b) : Int)))))
        rw [toldD_num]
        refine congrArg (Ieee.single.word _) (congrArg (rungOf Ieee.single _) ?_)
        omega
end Go.Proofs.YtieojgblamkgoaaGreatDoor
