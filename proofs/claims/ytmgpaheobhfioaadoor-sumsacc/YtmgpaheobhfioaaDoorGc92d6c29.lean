/- What the reference's Round returns at binary32: the nearest word. -/
import Derived.Test.YtmgpaheobhfioaaDoorG0a56b44d
import Derived.Deep.Cut
import Derived.Deep.CutRange
import Derived.Deep.CutBlock
namespace Go.Proofs.YtmgpaheobhfioaaDoor
open Go.RowKit

/-- The cells that Round reads. -/
structure RBox (F E : Int) (w wc : World) (neg : Bool) (more : Bool) : Prop where
  q : Q w wc
  f0 : wc.cell? ⟨w.heap.size, 0, none⟩ = some (.int .i64 F)
  f1 : wc.cell? ⟨w.heap.size, 1, none⟩ = some (.int .i64 E)
  k1 : wc.cell? ⟨w.heap.size + 1, 1, none⟩ = some (.bool neg)
  k4 : wc.cell? ⟨w.heap.size + 1, 4, none⟩ = some (.bool more)
theorem RBox.next {F E : Int} {w wc wd : World} {neg more : Bool} (h : RBox F E w wc neg more) (q : Q wc wd) : RBox F E w wd neg more :=
  ⟨h.q.trans q, q.cell h.f0, q.cell h.f1, q.cell h.k1, q.cell h.k4⟩
theorem restB_mono {a k d : Nat} (h : k ≤ d) (hk : restB a k = true) : restB a d = true := by
  induction d with
  | zero => rw [show k = 0 by omega] at hk; exact hk
  | succ d ih =>
    by_cases e : k = d + 1
    · rw [← e]; exact hk
    · exact restB_t (ih (by omega))
theorem below_more {more : Bool} {n k d : Nat} (h : k < d) (hk : (more || restB n k) = true) : (more || restB n k) = (more || restB n d) := by
  rw [hk]
  cases more
  · rw [Bool.false_or] at hk ⊢; exact (restB_mono (by omega) hk).symm
  · rfl
theorem kept_odd {n d : Nat} {more : Bool} (h1 : bitV n d = 1) (h2 : more = false) (h3 : restB n d = false) (hb : bitV (n / 2 ^ (d + 1)) 0 ≤ 1) :
    n / 2 ^ (d + 1) + ((bitV (n / 2 ^ (d + 1)) 0 : Int) == 1).toNat = n / 2 ^ (d + 1) + if bitV n (d + 1 - 1) = 1 ∧ (more.toNat = 1 ∨ n % 2 ^ (d + 1 - 1) ≠ 0 ∨ bitV (n / 2 ^ (d + 1)) 0 = 1) then 1 else 0 := by
  rw [show d + 1 - 1 = d by omega, h2]
  have h4 : n % 2 ^ d = 0 := by unfold restB at h3; simpa using h3
  rcases (by omega : bitV (n / 2 ^ (d + 1)) 0 = 0 ∨ bitV (n / 2 ^ (d + 1)) 0 = 1) with g | g
  · rw [g, if_neg (by simp [h4])]; rfl
  · rw [g, if_pos ⟨h1, Or.inr (Or.inr rfl)⟩]; rfl
theorem kept_below {n d : Nat} {more : Bool} (h1 : bitV n d = 1) (h2 : (more || restB n d) = true) :
    n / 2 ^ (d + 1) + true.toNat = n / 2 ^ (d + 1) + if bitV n (d + 1 - 1) = 1 ∧ (more.toNat = 1 ∨ n % 2 ^ (d + 1 - 1) ≠ 0 ∨ bitV (n / 2 ^ (d + 1)) 0 = 1) then 1 else 0 := by
  rw [show d + 1 - 1 = d by omega, if_pos]
  · rfl
  · refine ⟨h1, ?_⟩
    cases more
    · right; left
      unfold restB at h2
      simpa using h2
    · left; rfl

set_option maxHeartbeats 8000000 in
set_option maxRecDepth 1000000 in
theorem round32_fin (neg : Bool) (nv : Value) (n : Nat) (e : Int) (more : Bool) (w : World) (hn : NatAt w nv n) (hb : blen n ≤ 6000) (e0 : -5000 ≤ e) (e1 : e ≤ 5000)
    (hmore : more = true → n ≠ 0 ∧ e + 1 ≤ lastOf Ieee.single n e) :
    Calls Tryd.prog 62 #[.agg #[.int .i64 23, .int .i64 8], .agg #[.int .i64 2, .bool neg, nv, .int .i64 e, .bool more]] w
      fun x w' => x = .returned (.int .u64 ((Ieee.single.word neg (rungOf Ieee.single (2 * n + more.toNat) (e - 1)) : Nat) : Int)) ∧ Q w w' := by
  have hbl := hb
  have HMO : Hid _ := hmore
  clear hb hmore
  obtain ⟨T, hT⟩ : ∃ T : Int, T = toV n e 23 (-149) := ⟨_, rfl⟩
  have HT : Hid _ := hT
  have hT1 : T ≤ 12000 := by rw [hT]; unfold toV; omega
  have hT0 : -149 ≤ T := by rw [hT]; unfold toV; omega
  have hcase : ((blen n : Int) + e - 24 < -149 ∧ Hid (T = -149)) ∨ (¬ (blen n : Int) + e - 24 < -149 ∧ Hid (T = (blen n : Int) + e - 24)) := by
    unfold toV at hT
    by_cases h : (blen n : Int) + e - 24 < -149
    · exact Or.inl ⟨h, by show T = _; omega⟩
    · exact Or.inr ⟨h, by show T = _; omega⟩
  have HC : Hid _ := hcase
  clear hT hcase
  obtain ⟨pn, bn, Ln, Cn, rfl, hnI⟩ := hn
  have hn : NatAt w (.slice pn Ln Cn) n := ⟨pn, bn, Ln, Cn, rfl, hnI⟩
  go_enter Tryd.func62, Tryd.ntmps62
  go_wp2_with fail
  refine (bias_any 23 8 150 (by decide) _).mono ?_
  rintro x v1 ⟨rfl, rfl⟩
  go_upto_region 8 with fail
  go_cut [8] from 17 (fun s8 wc => s8 = .int .i64 T ∧ RBox 23 8 w wc neg more)
  case first =>
    have a1 : IntKind.i64.wrap ((blen n : Int) + e) = (blen n : Int) + e := by rw [IntKind.wrap_i64]; omega
    have a2 : IntKind.i64.wrap 24 = 24 := by decide
    have a3 : IntKind.i64.wrap ((blen n : Int) + e - 24) = (blen n : Int) + e - 24 := by rw [IntKind.wrap_i64]; omega
    rcases HC.out with ⟨h1, h2⟩ | ⟨h1, h2⟩
    all_goals
      go_region_held3 (fun w' => w'.cell? ⟨w.heap.size, 0, none⟩ = some (.int .i64 23)) (first | (simp [go_sem]; done) | go_keep) (first | (go_at_call 74; refine (bits_any _ n _ (Q.nat (((((Q.refl w).cells _ _).cells _ _).cells _ _).drew.drew) hn)).mono ?_; rintro x v1 ⟨rfl, rfl⟩))
      all_goals
        go_wp2_with fail
        go_meet
        case rel =>
          go_light
          exact ⟨congrArg (Value.int .i64) h2.out.symm, ((((Q.refl w).cells _ _).cells _ _).cells _ _).drew.drew, by simp [go_sem], by simp [go_sem], by simp [go_sem], by simp [go_sem]⟩
  case rest =>
    obtain ⟨rfl, hB⟩ := hcut
    have b0 := hB.f0
    have b4 := hB.k4
    go_upto_if 54 with fail
    go_cut [5, 9] from 17 (fun s5 s9 wc => ∃ (up : Bool) (m : Nat), s9 = .bool up ∧ NatAt wc s5 m ∧ m + up.toNat = keptV n more.toNat e T ∧ RBox 23 8 w wc neg more)
    case first =>
      by_cases hTe : e < T
      · obtain ⟨d, hd⟩ : ∃ d : Nat, T = e + (d + 1 : Nat) := ⟨(T - e - 1).toNat, by omega⟩
        have hdz : T - e - 1 = (d : Int) := by omega
        have hdz2 : T - e = ((d + 1 : Nat) : Int) := by omega
        have HD : Hid _ := hd
        clear hd
        have hdn : d ≤ 20000 := by omega
        have hbv := bitV_le n d
        go_wp2_with fail
        refine (bit_any _ n d _ (hB.q.nat hn) hdn).mono ?_
        rintro x wd ⟨rfl, hwd⟩
        subst hwd
        go_upto_block 0 with fail
        go_cut [11] from 17 (fun s11 wx => s11 = .bool (more || restB n d) ∧ wd = wx)
        case first =>
          go_wp2_with fail
          go_loopg [11, 12] d (fun g s11 s12 wr => wd = wr ∧ ∃ k : Nat, k ≤ d ∧ g = d - k ∧ s12 = .int .i64 k ∧ s11 = .bool (more || restB n k))
          case atStart => exact ⟨rfl, 0, Nat.zero_le _, rfl, rfl, by rw [restB_zero, Bool.or_false]⟩
          case round =>
            obtain ⟨rfl, k, hk, rfl, rfl, rfl⟩ := hrel
            by_cases hkd : k < d
            · have hkz : (k : Int) < (d : Int) := by omega
              cases hbel : (more || restB n k)
              · have hf : more = false ∧ restB n k = false := by simpa using hbel
                have HF : Hid _ := restB_f hf.2
                have hm0 := hf.1
                subst hm0
                clear hf
                go_wp2_with fail
                refine (bit_any _ n k _ (hB.q.nat hn) (by omega)).mono ?_
                rintro x we ⟨rfl, hwe⟩
                subst hwe
                go_wp2_with fail
                go_roundg (d - (k + 1))
                case measure => go_light; omega
                case rel => go_light; exact ⟨rfl, k + 1, by omega, rfl, by simp, congrArg Value.bool (by rw [HF.out, Bool.false_or])⟩
              · go_wp2_with fail
                go_meet
                case rel =>
                  go_light
                  exact ⟨congrArg Value.bool (by rw [← below_more hkd hbel, ← hbel]), rfl⟩
            · obtain rfl : k = d := by omega
              have hkz : ¬ (k : Int) < (k : Int) := by omega
              go_wp2_with fail
              go_meet
              case rel => go_light; exact ⟨rfl, rfl⟩
        case rest =>
          obtain ⟨rfl, rfl⟩ := hcut
          have HK : Hid (keptV n more.toNat e T = _) := kept_down (d + 1) HD.out (by omega) (by cases more <;> decide)
          go_wp2_with fail
          refine (down_any _ n (d + 1) _ (hB.q.nat hn) (by omega)).mono ?_
          rintro x wf ⟨v, rfl, hv, qv⟩
          have hbv2 := bitV_le (n / 2 ^ (d + 1)) 0
          have HV : Hid (NatAt wf v (n / 2 ^ (d + 1))) := hv
          cases hhalf : ((bitV n d : Int) == 1)
          · have hh : bitV n d ≠ 1 := by have := beq_eq_false_iff_ne.1 hhalf; omega
            have HH : Hid _ := hh
            clear hh hbv hbv2
            go_wp2_with fail
            go_meet
            case rel =>
              go_light
              exact ⟨false, n / 2 ^ (d + 1), rfl, HV.out, by rw [HK.out, if_neg (fun c => HH.out c.1)]; rfl, hB.next qv⟩
          · have hh : bitV n d = 1 := by have := beq_iff_eq.1 hhalf; omega
            have HH : Hid _ := hh
            clear hh hbv
            cases hbel : (more || restB n d)
            · have hf : more = false ∧ restB n d = false := by simpa using hbel
              have HF : Hid _ := hf
              clear hf
              go_wp2_with fail
              refine (bit_any v _ 0 _ HV.out (by decide)).mono ?_
              rintro x wg ⟨rfl, hwg⟩
              subst hwg
              go_wp2_with fail
              go_meet
              case rel =>
                go_light
                refine ⟨((bitV (n / 2 ^ (d + 1)) 0 : Int) == 1), n / 2 ^ (d + 1), rfl, HV.out, ?_, hB.next qv⟩
                rw [HK.out]
                exact kept_odd HH.out HF.out.1 HF.out.2 hbv2
            · have HF : Hid _ := hbel
              go_wp2_with fail
              go_meet
              case rel =>
                go_light
                refine ⟨true, n / 2 ^ (d + 1), rfl, HV.out, ?_, hB.next qv⟩
                rw [HK.out]
                exact kept_below HH.out HF.out
      · obtain ⟨d, hd⟩ : ∃ d : Nat, e = T + (d : Nat) := ⟨(e - T).toNat, by omega⟩
        have hdz : e - T = (d : Int) := by omega
        have HD : Hid _ := hd
        clear hd
        go_wp2_with fail
        have HU : Hid (n * 2 ^ d < 2 ^ 24) := by
          have h1 := HD.out
          have h2 := HT.out
          have h3 := blen_lt n
          unfold toV at h2
          by_cases h0 : n = 0
          · show n * 2 ^ d < 2 ^ 24
            rw [h0, Nat.zero_mul]; decide
          · show n * 2 ^ d < 2 ^ 24
            have h4 : blen n + d ≤ 24 := by omega
            have h5 : n * 2 ^ d < 2 ^ blen n * 2 ^ d := Nat.mul_lt_mul_of_pos_right h3 (Nat.two_pow_pos d)
            rw [← Nat.pow_add] at h5
            exact Nat.lt_of_lt_of_le h5 (Nat.pow_le_pow_right (by decide) h4)
        refine (up_any _ n d _ (hB.q.nat hn) (lt_cap HU.out (by decide))).mono ?_
        rintro x wf ⟨v, rfl, hv, qv⟩
        have HV : Hid _ := hv
        clear hv
        go_wp2_with fail
        go_meet
        case rel =>
          go_light
          have hm0 : more = false := by
            cases hmm : more
            · rfl
            · have h1 := HMO.out hmm
              have h2 := HT.out
              have h3 := toV_last Ieee.single e h1.1
              rw [single_least] at h3
              have h4 : toV n e 23 (-149) = lastOf Ieee.single n e := h3
              have h5 := HD.out
              omega
          exact ⟨false, n * 2 ^ d, rfl, HV.out, by rw [hm0]; exact (kept_up d HD.out).symm, hB.next qv⟩
    case rest =>
      obtain ⟨up, m, rfl, hm, hk, hB2⟩ := hcut
      have HK : Hid _ := hk
      clear hk b0 b4 hB
      obtain ⟨K, hK⟩ : ∃ K, K = keptV n more.toNat e T := ⟨_, rfl⟩
      have HKK : Hid _ := hK
      have hfacts := kept_facts Ieee.single n more.toNat e (by cases more <;> decide) (fun h => (HMO.out (by cases more <;> simp_all)).1)
      rw [single_binade, single_least, single_frac, single_inf] at hfacts
      have hTn : toV n e ((23 : Nat) : Int) (-149) = T := HT.out.symm
      rw [hTn, ← hK] at hfacts
      have HFA : Hid _ := hfacts
      have hK24 : K ≤ 16777216 := by have := hfacts.1; omega
      clear hfacts hK hTn
      go_upto_if 103 with fail
      go_cut [5] from 17 (fun s5 wc => NatAt wc s5 K ∧ RBox 23 8 w wc neg more)
      case first =>
        cases up
        · have hmk : m = K := by have h1 := HK.out; rw [← HKK.out] at h1; simpa using h1
          go_wp2_with fail
          go_meet
          case rel => go_light; rw [← hmk]; exact ⟨hm, hB2⟩
        · have hmk : m + 1 = K := by have h1 := HK.out; rw [← HKK.out] at h1; simpa using h1
          have HMK : Hid _ := hmk
          clear hmk
          go_wp2_with fail
          refine (natof_nat 1 _ (by decide)).mono ?_
          rintro x wf ⟨v, rfl, hv, qv⟩
          go_wp2_with fail
          refine (plus_any _ _ m 1 _ (qv.nat hm) hv (lt_cap (k := 25) (by have := HMK.out; omega) (by decide))).mono ?_
          rintro x wg ⟨v2, rfl, hv2, qv2⟩
          go_wp2_with fail
          go_meet
          case rel => go_light; rw [← HMK.out]; exact ⟨hv2, (hB2.next qv).next qv2⟩
      case rest =>
        obtain ⟨hs5, hB3⟩ := hcut
        have b0 := hB3.f0
        have b1 := hB3.f1
        have bk := hB3.k1
        obtain ⟨K', T', c1, c2, c3, c4, c5, c6⟩ := carried HFA.out.1 HFA.out.2.1 HFA.out.2.2.1 (fun h => by
          have h1 := HFA.out.2.2.2
          have h2 : more = false := by
            cases hmm : more
            · rfl
            · exact absurd h (HMO.out hmm).1
          rw [HKK.out, h, h2]; exact kept_zero _ _) HFA.out.2.2.2
        have C5 : Hid _ := c5
        have C6 : Hid _ := c6
        have C4 : Hid _ := c4
        clear c4 c5 c6
        have a2 : IntKind.i64.wrap 24 = 24 := by decide
        go_upto_region 23 with fail
        go_cut [112] from 17 (fun s112 wx => s112 = .bool (decide (24 < (blen K : Int))) ∧ Q wc wx)
        case first =>
          go_region_held3 (fun w' => w'.cell? ⟨w.heap.size, 0, none⟩ = some (.int .i64 23)) (first | (simp [go_sem, b0]; done) | go_keep) (first | (go_at_call 74; refine (bits_any _ K _ ((Q.refl wc).drew.nat hs5)).mono ?_; rintro x v1 ⟨rfl, rfl⟩))
          all_goals
            go_wp2_with fail
            go_meet
            case rel => go_light; exact ⟨rfl, (Q.refl wc).drew⟩
        case rest =>
          obtain ⟨rfl, qx⟩ := hcut
          have hB4 := hB3.next qx
          have hs5b := qx.nat hs5
          clear b0 b1 bk hB3 hs5
          go_upto_if 112 with fail
          go_cut [5, 8] from 17 (fun s5 s8 wx => NatAt wx s5 K' ∧ s8 = .int .i64 T' ∧ RBox 23 8 w wx neg more)
          case first =>
            rcases C4.out with ⟨g1, g2, g3⟩ | ⟨g1, g2, g3⟩
            · have hd : (24 : Int) < (blen K : Int) := by rw [g1]; decide
              have G1 : Hid _ := g1
              have G2 : Hid _ := g2
              have G3 : Hid _ := g3
              clear g1 g2 g3
              go_wp2_with fail
              refine (down_any _ K 1 _ hs5b (by decide)).mono ?_
              rintro x wf ⟨v, rfl, hv, qv⟩
              go_wp2_with fail
              go_meet
              case rel =>
                go_light
                refine ⟨?_, congrArg (Value.int .i64) G3.out.symm, hB4.next qv⟩
                have : K / 2 ^ 1 = K' := by rw [G1.out, G2.out]
                rw [← this]; exact hv
            · have hd : ¬ (24 : Int) < (blen K : Int) := by
                have := blen_le (n := K) (k := 24) (by omega)
                omega
              have G2 : Hid _ := g2
              have G3 : Hid _ := g3
              clear g1 g2 g3
              go_wp2_with fail
              go_meet
              case rel => go_light; exact ⟨by rw [G2.out]; exact hs5b, congrArg (Value.int .i64) G3.out.symm, hB4⟩
          case rest =>
            obtain ⟨hs6, rfl, hB5⟩ := hcut
            have b0 := hB5.f0
            have b1 := hB5.f1
            have bk := hB5.k1
            have hlow : lowV K' = K' := Nat.mod_eq_of_lt (by omega)
            have w2 : IntKind.u64.wrap 8388608 = 8388608 := by decide
            have w3 : IntKind.u64.wrap 8388607 = 8388607 := by decide
            have w4 : IntKind.u64.wrap 2139095040 = 2139095040 := by decide
            by_cases hsub : K' < 8388608
            · have hz : (K' : Int) < 8388608 := by omega
              have hor := or_word (neg := neg) (r := K') (by omega)
              go_wp2_with fail
              refine (low_any _ K' _ hs6).mono ?_
              rintro x wg ⟨rfl, hwg⟩
              subst hwg
              rw [hlow]
              go_wp2_with fail
              refine (sign_any 23 8 false neg (by decide) _).mono ?_
              rintro x wh ⟨rfl, rfl⟩
              go_wp2_with fail
              go_ret
              exact ⟨ret_int (by rw [C5.out hsub]), (hB5.q).cells _ _⟩
            · have hz : ¬ (K' : Int) < 8388608 := by omega
              obtain ⟨X, hX⟩ : ∃ X : Nat, T' + 150 = (X : Int) := ⟨(T' + 150).toNat, by omega⟩
              have hXr := C6.out (by omega)
              rw [show (T' + 149).toNat = X - 1 by omega] at hXr
              have HX : Hid _ := hXr
              have HX1 : Hid (1 ≤ X) := by show 1 ≤ X; omega
              have hX2 : X ≤ 13000 := by omega
              have hzb : decide ((K' : Int) < 8388608) = false := decide_eq_false hz
              have HX0 : Hid _ := hX
              have HX2 : Hid _ := hX2
              clear hXr w2 w3 w4 hX hX2 c2 c3
              go_wp2_with fail
              refine (low_any _ K' _ hs6).mono ?_
              rintro x wg ⟨rfl, hwg⟩
              subst hwg
              rw [hlow]
              go_wp2_with fail
              refine (bias_any 23 8 150 (by decide) _).mono ?_
              rintro x wh ⟨rfl, hwh⟩
              have hB6 : RBox 23 8 w wh neg more := hB5.next (by rw [hwh]; exact ((Q.refl _).cells _ _).drew)
              have b0 := hB6.f0
              have b1 := hB6.f1
              have bk := hB6.k1
              have hX := HX0.out
              have hX2 := HX2.out
              clear hz hzb hwh
              go_wp2_with fail
              refine (top_any 23 8 255 (by decide) _).mono ?_
              rintro x wi ⟨rfl, hwi⟩
              have hB7 : RBox 23 8 w wi neg more := hB6.next (by rw [hwi]; exact (Q.refl _).cells _ _)
              have b0 := hB7.f0
              have b1 := hB7.f1
              have bk := hB7.k1
              clear hwi
              by_cases hinf : 255 ≤ X
              · have hiz : (255 : Int) ≤ (X : Int) := by omega
                have hib : decide ((255 : Int) ≤ (X : Int)) = true := decide_eq_true hiz
                go_wp2_with fail
                have w4 : IntKind.u64.wrap 2139095040 = 2139095040 := by decide
                have hor := or_word (neg := neg) (r := 2139095040) (by decide)
                rw [show ((2139095040 : Nat) : Int) = 2139095040 from rfl] at hor
                obtain ⟨Wd, hWd⟩ : ∃ Wd : Nat, Wd = Ieee.single.word neg 2139095040 := ⟨_, rfl⟩
                rw [← hWd] at hor
                have HWD : Hid _ := hWd
                clear hWd
                go_region_held3 (fun w' => w'.cell? ⟨w.heap.size, 0, none⟩ = some (.int .i64 23) ∧ w'.cell? ⟨w.heap.size, 1, none⟩ = some (.int .i64 8) ∧ w'.cell? ⟨w.heap.size + 1, 1, none⟩ = some (.bool neg)) (first | (simp [World.cell?_alloc_some, b0, b1, bk]; done) | (simp [World.cell?_alloc_some, b0, b1, bk, go_sem]; done) | go_keep) (first | (go_at_call 73; refine (sign_any 23 8 false neg (by decide) _).mono ?_; rintro x v1 ⟨rfl, rfl⟩) | (go_at_call 42; refine (top_any 23 8 255 (by decide) _).mono ?_; rintro x v1 ⟨rfl, rfl⟩))
                all_goals
                  go_wp2_with fail
                  go_ret
                  refine ⟨ret_int ?_, ((hB7.q.cells _ _).cells _ _).drew⟩
                  rw [HX.out, HWD.out, Nat.min_eq_right]
                  have := HX1.out
                  omega
              · have hiz : ¬ (255 : Int) ≤ (X : Int) := by omega
                have hib : decide ((255 : Int) ≤ (X : Int)) = false := decide_eq_false hiz
                go_wp2_with fail
                have w2 : IntKind.u64.wrap 8388608 = 8388608 := by decide
                have w3 : IntKind.u64.wrap 8388607 = 8388607 := by decide
                have hmask : bits .and .u64 (K' : Int) 8388607 = ((K' % 8388608 : Nat) : Int) := by
                  have : bits .and .u64 (K' : Int) 8388607 = (K' : Int) % 8388608 := by go_bits2
                  rw [this]; rfl
                obtain ⟨fr, hfr⟩ : ∃ fr, fr = K' % 8388608 := ⟨_, rfl⟩
                rw [← hfr] at hmask
                have hfb : fr < 8388608 := by omega
                have HKF : Hid (K' = 8388608 + fr) := by show K' = 8388608 + fr; omega
                have hxb : IntKind.u64.wrap (X : Int) = (X : Int) := u64_wrap (by omega) (by omega)
                obtain ⟨Y, hY⟩ : ∃ Y, Y = X * 8388608 := ⟨_, rfl⟩
                have hyw : IntKind.u64.wrap ((X : Int) * 8388608) = (Y : Int) := by
                  rw [u64_wrap (by omega) (by omega), hY]; omega
                have ho1 := or_word (neg := neg) (r := Y) (by omega)
                have ho2 := or_word2 (neg := neg) (x := X) (fr := fr) (by omega) hfb
                rw [← hY] at ho2
                obtain ⟨W1, hW1⟩ : ∃ W1 : Nat, W1 = Ieee.single.word neg Y := ⟨_, rfl⟩
                obtain ⟨W2, hW2⟩ : ∃ W2 : Nat, W2 = Ieee.single.word neg (Y + fr) := ⟨_, rfl⟩
                rw [← hW1] at ho1 ho2
                rw [← hW2] at ho2
                have HW2 : Hid _ := hW2
                have HY : Hid _ := hY
                clear hW1 hW2 hY hfr hfb hinf
                go_region_held3 (fun w' => w'.cell? ⟨w.heap.size, 0, none⟩ = some (.int .i64 23) ∧ w'.cell? ⟨w.heap.size, 1, none⟩ = some (.int .i64 8) ∧ w'.cell? ⟨w.heap.size + 1, 1, none⟩ = some (.bool neg)) (first | (simp [World.cell?_alloc_some, b0, b1, bk]; done) | (simp [World.cell?_alloc_some, b0, b1, bk, go_sem]; done) | go_keep) (first | (go_at_call 73; refine (sign_any 23 8 false neg (by decide) _).mono ?_; rintro x v1 ⟨rfl, rfl⟩) | (go_at_call 42; refine (top_any 23 8 255 (by decide) _).mono ?_; rintro x v1 ⟨rfl, rfl⟩))
                all_goals
                  go_wp2_with fail
                  go_ret
                  refine ⟨ret_int ?_, (hB7.q.cells _ _).drew⟩
                  rw [HX.out, HW2.out, Nat.min_eq_left]
                  · have h1 := HX1.out
                    have h2 := HKF.out
                    have h3 := HY.out
                    congr 2
                    omega
                  · have h1 := HX1.out
                    have h2 := HKF.out
                    omega
end Go.Proofs.YtmgpaheobhfioaaDoor
/- What the reference's Round, bits and num return of whatever number and sample. -/
namespace Go.Proofs.YtmgpaheobhfioaaDoor
open Go.RowKit

/-- The word that a number is rounded to. -/
def roundR : RNum → Nat
  | ⟨none⟩ => 2143289344
  | ⟨some (.inl s)⟩ => Ieee.single.word s 2139095040
  | ⟨some (.inr (s, n, e, m))⟩ => Ieee.single.word s (rungOf Ieee.single (2 * n + m.toNat) (e - 1))
/-- Numbers that Round takes. -/
def fits : RNum → Prop
  | ⟨some (.inr (_, n, e, m))⟩ => blen n ≤ 6000 ∧ -5000 ≤ e ∧ e ≤ 5000 ∧ (m = true → n ≠ 0 ∧ e + 1 ≤ lastOf Ieee.single n e)
  | _ => True
theorem rung_le (f : Ieee.Format) (m : Nat) (p : Int) : rungOf f m p ≤ f.infRung := by
  unfold rungOf; split
  · exact Nat.zero_le _
  · exact Nat.min_le_right _ _
theorem roundR_lt (x : RNum) : roundR x < 4294967296 := by
  cases x using RNum.rec3 with
  | nan => decide
  | inf s => exact word_lt (by decide)
  | fin s n e m =>
    refine word_lt ?_
    have := rung_le Ieee.single (2 * n + m.toNat) (e - 1)
    rw [single_inf] at this
    omega

set_option maxHeartbeats 4000000 in
set_option maxRecDepth 1000000 in
theorem round32_any (v : Value) (x : RNum) (w : World) (hx : NumAt w v x) (hf : fits x) :
    Calls Tryd.prog 62 #[.agg #[.int .i64 23, .int .i64 8], v] w fun e w' => e = .returned (.int .u64 (roundR x : Int)) ∧ Q w w' := by
  cases x using RNum.rec3 with
  | nan =>
    obtain ⟨b, e, m, rfl⟩ := hx
    go_enter Tryd.func62, Tryd.ntmps62
    go_wp2_with fail
    refine (fmade_any 23 8 2143289344 (by decide) _).mono ?_
    rintro e w1 ⟨rfl, q1⟩
    go_wp2_with fail
    go_ret
    exact ⟨rfl, (((Q.refl w).cells _ _).cells _ _).trans q1⟩
  | inf s =>
    obtain ⟨e, m, rfl⟩ := hx
    have w4 : IntKind.u64.wrap 2139095040 = 2139095040 := by decide
    have hor := or_word (neg := s) (r := 2139095040) (by decide)
    rw [show ((2139095040 : Nat) : Int) = 2139095040 from rfl] at hor
    obtain ⟨Wd, hWd⟩ : ∃ Wd : Nat, Wd = Ieee.single.word s 2139095040 := ⟨_, rfl⟩
    rw [← hWd] at hor
    have HWD : Hid _ := hWd
    clear hWd
    go_enter Tryd.func62, Tryd.ntmps62
    go_wp2_with fail
    go_region_held3 (fun w' => w'.cell? ⟨w.heap.size, 0, none⟩ = some (.int .i64 23) ∧ w'.cell? ⟨w.heap.size, 1, none⟩ = some (.int .i64 8) ∧ w'.cell? ⟨w.heap.size + 1, 1, none⟩ = some (.bool s)) (first | (simp [go_sem]; done) | go_keep) (first | (go_at_call 73; refine (sign_any 23 8 false s (by decide) _).mono ?_; rintro x v1 ⟨rfl, rfl⟩) | (go_at_call 42; refine (top_any 23 8 255 (by decide) _).mono ?_; rintro x v1 ⟨rfl, rfl⟩))
    all_goals
      go_wp2_with fail
      go_ret
      exact ⟨ret_int (by rw [HWD.out]; rfl), (((((Q.refl w).cells _ _).cells _ _).cells _ _).cells _ _).drew⟩
  | fin s n e m =>
    obtain ⟨nv, rfl, hn⟩ := hx
    exact round32_fin s nv n e m w hn hf.1 hf.2.1 hf.2.2.1 hf.2.2.2

/-- A number stays where a struct of another kind is written. -/
theorem natAt_but {w w' : World} {v : Value} {n rb : Nat} {z : Int} (h : NatAt w v n) (h0 : w.cell? ⟨rb, 0, none⟩ = some (.int .i64 z)) (ha : ∀ a : Addr, a.block ≠ rb → w'.cell? a = w.cell? a) : NatAt w' v n := by
  obtain ⟨p, b, L, C, e, hn⟩ := h
  refine ⟨p, b, L, C, e, hn.ptr, fun i hi => ?_, hn.hi, hn.lo, hn.len⟩
  have hne : b ≠ rb := fun g => by
    subst g
    have := hn.cell 0 (by omega)
    rw [h0] at this
    cases this
  rw [ha ⟨b, i, none⟩ hne]; exact hn.cell i hi
theorem numAt_but {w w' : World} {v : Value} {x : RNum} {rb : Nat} {z : Int} (h : NumAt w v x) (h0 : w.cell? ⟨rb, 0, none⟩ = some (.int .i64 z)) (ha : ∀ a : Addr, a.block ≠ rb → w'.cell? a = w.cell? a) : NumAt w' v x := by
  cases x using RNum.rec3 with
  | nan => exact h
  | inf s => exact h
  | fin s n e m =>
    obtain ⟨nv, e, hn⟩ := h
    exact ⟨nv, e, natAt_but hn h0 ha⟩
theorem set_but (w : World) {rb i : Nat} {x : Value} {a : Addr} (h : a.block ≠ rb) : (w.setCell ⟨rb, i, none⟩ x).cell? a = w.cell? a :=
  World.cell?_setCell_other _ _ _ _ (fun e => h (by rw [← e]))
/-- What every number is made of. -/
theorem NumAt.made {w : World} {v : Value} {x : RNum} (h : NumAt w v x) : ∃ k s p L C e m, v = .agg #[.int .i64 k, .bool s, .slice p L C, .int .i64 e, .bool m] := by
  cases x using RNum.rec3 with
  | nan => obtain ⟨b, e, m, rfl⟩ := h; exact ⟨_, _, _, _, _, _, _, rfl⟩
  | inf s => obtain ⟨e, m, rfl⟩ := h; exact ⟨_, _, _, _, _, _, _, rfl⟩
  | fin s n e m =>
    obtain ⟨nv, rfl, p, b, L, C, rfl, hn⟩ := h
    exact ⟨_, _, _, _, _, _, _, rfl⟩
/-- A block of five cells as a new struct has them, none of them frozen. -/
structure Res5 (w : World) (rb : Nat) : Prop where
  c0 : w.cell? ⟨rb, 0, none⟩ = some (.int .i64 0)
  c1 : w.cell? ⟨rb, 1, none⟩ = some (.bool false)
  c2 : w.cell? ⟨rb, 2, none⟩ = some (.slice none 0 0)
  c3 : w.cell? ⟨rb, 3, none⟩ = some (.int .i64 0)
  c4 : w.cell? ⟨rb, 4, none⟩ = some (.bool false)
  z : ∀ i, w.frozen? ⟨rb, i, none⟩ = false
theorem Res5.next {w w' : World} {rb : Nat} (h : Res5 w rb) (q : Q w w') : Res5 w' rb :=
  ⟨q.cell h.c0, q.cell h.c1, q.cell h.c2, q.cell h.c3, q.cell h.c4, fun i => by rw [q.2]; exact h.z i⟩

end Go.Proofs.YtmgpaheobhfioaaDoor
/- What the reference's PlusNum returns: the exact sum. -/
namespace Go.Proofs.YtmgpaheobhfioaaDoor
open Go.RowKit

/-- The exact sum. -/
def plusFin (s t : Bool) (x y : Nat) (b : Int) : RNum :=
  if s = t then .fin s (x + y) b false
  else if x = y then .fin false 0 b false
  else if y < x then .fin s (x - y) b false
  else .fin t (y - x) b false
def plusR : RNum → RNum → RNum
  | ⟨none⟩, _ => .nan
  | ⟨some (.inl _)⟩, ⟨none⟩ => .nan
  | ⟨some (.inr _)⟩, ⟨none⟩ => .nan
  | ⟨some (.inl s)⟩, ⟨some (.inl t)⟩ => if s = t then .inf s else .nan
  | ⟨some (.inl s)⟩, ⟨some (.inr _)⟩ => .inf s
  | ⟨some (.inr _)⟩, ⟨some (.inl t)⟩ => .inf t
  | ⟨some (.inr (s, n, e, _))⟩, ⟨some (.inr (t, m, f, _))⟩ => plusFin s t (n * 2 ^ (e - min e f).toNat) (m * 2 ^ (f - min e f).toNat) (min e f)
/-- Numbers that PlusNum takes. -/
def small : RNum → Prop
  | ⟨some (.inr (_, n, e, _))⟩ => blen n ≤ 2000 ∧ -2000 ≤ e ∧ e ≤ 2000
  | _ => True

/-- The cells that PlusNum reads and writes behind the shifts. -/
structure PBox (w wc : World) (s t : Bool) : Prop where
  q : Q w wc
  a1 : wc.cell? ⟨w.heap.size, 1, none⟩ = some (.bool s)
  b1 : wc.cell? ⟨w.heap.size + 1, 1, none⟩ = some (.bool t)
  r : Res5 wc (w.heap.size + 1 + 1)
theorem PBox.next {w wc wd : World} {s t : Bool} (h : PBox w wc s t) (q : Q wc wd) : PBox w wd s t :=
  ⟨h.q.trans q, q.cell h.a1, q.cell h.b1, h.r.next q⟩

set_option maxHeartbeats 4000000 in
set_option maxRecDepth 1000000 in
theorem plus_odd (va vb : Value) (x y : RNum) (w : World) (hx : NumAt w va x) (hy : NumAt w vb y) (hne : ∀ s n e m t k f g, ¬ (x = .fin s n e m ∧ y = .fin t k f g)) :
    Calls Tryd.prog 19 #[va, vb] w fun e w' => ∃ v, e = .returned v ∧ NumAt w' v (plusR x y) ∧ Q w w' := by
  cases x using RNum.rec3 with
  | nan =>
    obtain ⟨b, e, m, rfl⟩ := hx
    obtain ⟨k, s, p, L, C, ee, mm, rfl⟩ := hy.made
    clear hy hne
    go_enter Tryd.func19, Tryd.ntmps19
    go_wp2_with fail
    refine bodyPost_ret (v := .agg #[.int .i64 0, .bool false, .slice none 0 0, .int .i64 0, .bool false]) (by simp [results, Tryd.results19, go_sem]) rfl ⟨_, rfl, ⟨_, _, _, rfl⟩, ?_⟩
    exact (((Q.refl w).cells _ _).cells _ _).cells _ _
  | inf s =>
    obtain ⟨e, m, rfl⟩ := hx
    cases y using RNum.rec3 with
    | nan =>
      obtain ⟨b, e', m', rfl⟩ := hy
      go_enter Tryd.func19, Tryd.ntmps19
      go_wp2_with fail
      refine bodyPost_ret (v := .agg #[.int .i64 0, .bool false, .slice none 0 0, .int .i64 0, .bool false]) (by simp [results, Tryd.results19, go_sem]) rfl ⟨_, rfl, ⟨_, _, _, rfl⟩, ?_⟩
      exact (((Q.refl w).cells _ _).cells _ _).cells _ _
    | inf t =>
      obtain ⟨e', m', rfl⟩ := hy
      clear hne
      cases s <;> cases t
      · go_enter Tryd.func19, Tryd.ntmps19
        go_wp2_with fail
        refine bodyPost_ret (v := .agg #[.int .i64 1, .bool false, .slice none 0 0, .int .i64 e, .bool m]) (by simp [results, Tryd.results19, go_sem]) rfl ⟨_, rfl, ⟨_, _, rfl⟩, ?_⟩
        exact (((Q.refl w).cells _ _).cells _ _).cells _ _
      · go_enter Tryd.func19, Tryd.ntmps19
        go_wp2_with fail
        refine bodyPost_ret (v := .agg #[.int .i64 0, .bool false, .slice none 0 0, .int .i64 0, .bool false]) (by simp [results, Tryd.results19, go_sem]) rfl ⟨_, rfl, ⟨_, _, _, rfl⟩, ?_⟩
        exact (((Q.refl w).cells _ _).cells _ _).cells _ _
      · go_enter Tryd.func19, Tryd.ntmps19
        go_wp2_with fail
        refine bodyPost_ret (v := .agg #[.int .i64 0, .bool false, .slice none 0 0, .int .i64 0, .bool false]) (by simp [results, Tryd.results19, go_sem]) rfl ⟨_, rfl, ⟨_, _, _, rfl⟩, ?_⟩
        exact (((Q.refl w).cells _ _).cells _ _).cells _ _
      · go_enter Tryd.func19, Tryd.ntmps19
        go_wp2_with fail
        refine bodyPost_ret (v := .agg #[.int .i64 1, .bool true, .slice none 0 0, .int .i64 e, .bool m]) (by simp [results, Tryd.results19, go_sem]) rfl ⟨_, rfl, ⟨_, _, rfl⟩, ?_⟩
        exact (((Q.refl w).cells _ _).cells _ _).cells _ _
    | fin t k f g =>
      obtain ⟨nv, rfl, p, b, L, C, rfl, hn⟩ := hy
      clear hne
      go_enter Tryd.func19, Tryd.ntmps19
      go_wp2_with fail
      refine bodyPost_ret (v := .agg #[.int .i64 1, .bool s, .slice none 0 0, .int .i64 e, .bool m]) (by simp [results, Tryd.results19, go_sem]) rfl ⟨_, rfl, ⟨_, _, rfl⟩, ?_⟩
      exact (((Q.refl w).cells _ _).cells _ _).cells _ _
  | fin s n e m =>
    obtain ⟨nv, rfl, p, b, L, C, rfl, hn⟩ := hx
    cases y using RNum.rec3 with
    | nan =>
      obtain ⟨b', e', m', rfl⟩ := hy
      clear hne
      go_enter Tryd.func19, Tryd.ntmps19
      go_wp2_with fail
      refine bodyPost_ret (v := .agg #[.int .i64 0, .bool false, .slice none 0 0, .int .i64 0, .bool false]) (by simp [results, Tryd.results19, go_sem]) rfl ⟨_, rfl, ⟨_, _, _, rfl⟩, ?_⟩
      exact (((Q.refl w).cells _ _).cells _ _).cells _ _
    | inf t =>
      obtain ⟨e', m', rfl⟩ := hy
      clear hne
      go_enter Tryd.func19, Tryd.ntmps19
      go_wp2_with fail
      refine bodyPost_ret (v := .agg #[.int .i64 1, .bool t, .slice none 0 0, .int .i64 e', .bool m']) (by simp [results, Tryd.results19, go_sem]) rfl ⟨_, rfl, ⟨_, _, rfl⟩, ?_⟩
      exact (((Q.refl w).cells _ _).cells _ _).cells _ _
    | fin t k f g => exact absurd ⟨rfl, rfl⟩ (hne s n e m t k f g)

theorem far2 (w : World) : w.heap.size ≤ w.heap.size + 1 + 1 := by omega
theorem add_cap {x y : Nat} (hx : x < 2 ^ 6000) (hy : y < 2 ^ 6000) : x + y < cap := by
  obtain ⟨j, hj⟩ : ∃ j, j = 6000 := ⟨_, rfl⟩
  rw [← hj] at hx hy
  exact lt_cap (k := j + 1) (by rw [Nat.pow_succ]; omega) (by omega)
theorem shifted_lt {k : Nat} (n d : Nat) (h : blen n + d ≤ k) : n * 2 ^ d < 2 ^ k := by
  have h1 : n * 2 ^ d < 2 ^ blen n * 2 ^ d := Nat.mul_lt_mul_of_pos_right (blen_lt n) (Nat.two_pow_pos d)
  rw [← Nat.pow_add] at h1
  exact Nat.lt_of_lt_of_le h1 (Nat.pow_le_pow_right (by decide) h)

set_option maxHeartbeats 8000000 in
set_option maxRecDepth 1000000 in
theorem plus_fin (s t m m' : Bool) (va vb : Value) (n k : Nat) (e f : Int) (w : World) (hn : NatAt w va n) (hk : NatAt w vb k)
    (n1 : blen n ≤ 2000) (e0 : -2000 ≤ e) (e1 : e ≤ 2000) (k1 : blen k ≤ 2000) (f0 : -2000 ≤ f) (f1 : f ≤ 2000) :
    Calls Tryd.prog 19 #[.agg #[.int .i64 2, .bool s, va, .int .i64 e, .bool m], .agg #[.int .i64 2, .bool t, vb, .int .i64 f, .bool m']] w
      fun x w' => ∃ v, x = .returned v ∧ NumAt w' v (plusFin s t (n * 2 ^ (e - min e f).toNat) (k * 2 ^ (f - min e f).toNat) (min e f)) ∧ Q w w' := by
  obtain ⟨b, hb⟩ : ∃ b, b = min e f := ⟨_, rfl⟩
  rw [← hb]
  obtain ⟨da, hda⟩ : ∃ da : Nat, da = (e - b).toNat := ⟨_, rfl⟩
  obtain ⟨db, hdb⟩ : ∃ db : Nat, db = (f - b).toNat := ⟨_, rfl⟩
  rw [← hda, ← hdb]
  have ea : e - b = (da : Int) := by omega
  have eb : f - b = (db : Int) := by omega
  have b0 : -2000 ≤ b := by omega
  have b1 : b ≤ 2000 := by omega
  have hda4 : da ≤ 4000 := by omega
  have hdb4 : db ≤ 4000 := by omega
  have wa : IntKind.i64.wrap (da : Int) = (da : Int) := by rw [IntKind.wrap_i64]; omega
  have wb : IntKind.i64.wrap (db : Int) = (db : Int) := by rw [IntKind.wrap_i64]; omega
  have hcx := shifted_lt (k := 6000) n da (by omega)
  have hcy := shifted_lt (k := 6000) k db (by omega)
  obtain ⟨X, hX⟩ : ∃ X, X = n * 2 ^ da := ⟨_, rfl⟩
  obtain ⟨Y, hY⟩ : ∃ Y, Y = k * 2 ^ db := ⟨_, rfl⟩
  have hcap1 : Hid (n * 2 ^ da < cap) := lt_cap hcx (by decide)
  have hcap2 : Hid (k * 2 ^ db < cap) := lt_cap hcy (by decide)
  have hcap3 : Hid (X + Y < cap) := by
    show X + Y < cap
    rw [hX, hY]
    exact add_cap hcx hcy
  rw [← hX, ← hY]
  have HX : Hid _ := hX
  have HY : Hid _ := hY
  have HBM : Hid _ := hb
  clear hcx hcy hX hY hda hdb
  obtain ⟨pa, ba, La, Ca, rfl, hnI⟩ := hn
  obtain ⟨pb, bb, Lb, Cb, rfl, hkI⟩ := hk
  have HNA : Hid (NatAt w (.slice pa La Ca) n) := ⟨pa, ba, La, Ca, rfl, hnI⟩
  have HKA : Hid (NatAt w (.slice pb Lb Cb) k) := ⟨pb, bb, Lb, Cb, rfl, hkI⟩
  clear hnI hkI hb
  go_enter Tryd.func19, Tryd.ntmps19
  go_upto_region 7 with fail
  go_cut [5] from 9 (fun s5 wc => s5 = .int .i64 b ∧ wc.cell? ⟨w.heap.size, 2, none⟩ = some (.slice pa La Ca) ∧ wc.cell? ⟨w.heap.size, 3, none⟩ = some (.int .i64 e) ∧ wc.cell? ⟨w.heap.size + 1, 2, none⟩ = some (.slice pb Lb Cb) ∧ wc.cell? ⟨w.heap.size + 1, 3, none⟩ = some (.int .i64 f) ∧ PBox w wc s t)
  case first =>
    go_wp2_with fail
    all_goals
      go_meet
      case rel =>
        go_light
        refine ⟨congrArg (Value.int .i64) (by have := HBM.out; omega), by simp [go_sem], by simp [go_sem], by simp [go_sem], by simp [go_sem], (((Q.refl w).cells _ _).cells _ _).cells _ _, by simp [go_sem], by simp [go_sem], ⟨by simp [go_sem], by simp [go_sem], by simp [go_sem], by simp [go_sem], by simp [go_sem], fun i => by simp [go_sem]⟩⟩
  case rest =>
    obtain ⟨rfl, a2, a3, c2, c3, hB⟩ := hcut
    go_upto_region 8 with fail
    go_cut [6, 7] from 9 (fun s6 s7 wd => NatAt wd s6 X ∧ NatAt wd s7 Y ∧ PBox w wd s t)
    case first =>
      go_region_held3 (fun w' => w'.cell? ⟨w.heap.size, 2, none⟩ = some (.slice pa La Ca) ∧ w'.cell? ⟨w.heap.size, 3, none⟩ = some (.int .i64 e) ∧ w'.cell? ⟨w.heap.size + 1, 2, none⟩ = some (.slice pb Lb Cb) ∧ w'.cell? ⟨w.heap.size + 1, 3, none⟩ = some (.int .i64 f)) (first | (refine ⟨?_, ?_, ?_, ?_⟩ <;> assumption) | (simp [a2, a3, c2, c3]; done) | go_keep) (first | (go_at_call_of 44 (Value.slice pa La Ca); refine (up_any _ n da _ (Q.nat hB.q.drew HNA.out) hcap1.out).mono ?_; rintro x w1 ⟨v1, rfl, hv1, q1⟩; have g2 := q1.cell (p := ⟨w.heap.size, 2, none⟩) a2; have g3 := q1.cell (p := ⟨w.heap.size, 3, none⟩) a3; have g4 := q1.cell (p := ⟨w.heap.size + 1, 2, none⟩) c2; have g5 := q1.cell (p := ⟨w.heap.size + 1, 3, none⟩) c3) | (go_at_call_of 44 (Value.slice pb Lb Cb); refine (up_any _ k db _ (Q.nat (hB.q.drew.trans q1) HKA.out) hcap2.out).mono ?_; rintro x w2 ⟨v2, rfl, hv2, q2⟩; have h2 := q2.cell g2; have h3 := q2.cell g3; have h4 := q2.cell g4; have h5 := q2.cell g5))
      all_goals
        go_wp2_with fail
        go_meet
        case rel =>
          go_light
          exact ⟨by rw [HX.out]; exact q2.nat hv1, by rw [HY.out]; exact hv2, ((hB.next (Q.refl _).drew).next q1).next q2⟩
    case rest =>
      obtain ⟨h6, h7, hB2⟩ := hcut
      have a1 := hB2.a1
      have b1 := hB2.b1
      have H6 : Hid _ := h6
      have H7 : Hid _ := h7
      clear ea eb wa wb a2 a3 c2 c3 h6 h7
      cases hst : (s == t)
      · have hne : s ≠ t := by simpa using hst
        go_wp2_with fail
        refine (compare_any _ _ X Y _ H6.out H7.out).mono ?_
        rintro x w3 ⟨rfl, q3⟩
        have hB3 := hB2.next q3
        have a1 := hB3.a1
        have b1 := hB3.b1
        have J6 : Hid _ := q3.nat H6.out
        have J7 : Hid _ := q3.nat H7.out
        clear hB2
        rcases Nat.lt_trichotomy X Y with hc | hc | hc
        · have ec : cmpV X Y = -1 := by unfold cmpV; rw [if_pos hc]
          rw [ec]
          have HC : Hid _ := hc
          clear ec hc
          go_wp2_with fail
          go_region_with (first | (go_at_call 47; refine (minus_any _ _ Y X _ (Q.nat (Q.refl _).drew J7.out) (Q.nat (Q.refl _).drew J6.out) (Nat.lt_of_le_of_lt (Nat.le_add_left _ _) hcap3.out) (Nat.le_of_lt HC.out)).mono ?_; rintro x w4 ⟨v4, rfl, hv4, q4⟩; obtain ⟨p4, b4, L4, C4, rfl, hI4⟩ := hv4; have n1 := q4.cell (p := ⟨w.heap.size + 1, 1, none⟩) b1; have R := hB3.r.next ((Q.refl _).drew.trans q4); have d0 := R.c0; have d1 := R.c1; have d2 := R.c2; have d3 := R.c3; have d4 := R.c4; have y0 := R.z 0; have y1 := R.z 1; have y2 := R.z 2; have y3 := R.z 3; have y4 := R.z 4))
          all_goals
            go_wp2_with fail
            refine bodyPost_ret (v := .agg #[.int .i64 2, .bool t, .slice p4 L4 C4, .int .i64 b, .bool false]) (by simp [results, Tryd.results19, go_sem, d0, d1, d2, d3, d4]) rfl ⟨_, rfl, ?_, ?_⟩
            · rw [show plusFin s t X Y b = .fin t (Y - X) b false from by have := HC.out; unfold plusFin; rw [if_neg hne, if_neg (by omega), if_neg (by omega)]]
              exact ⟨_, rfl, natAt_but ⟨p4, b4, L4, C4, rfl, hI4⟩ d0 (fun a ha => by repeat rw [set_but _ ha])⟩
            · exact ((((((hB3.q.drew).trans q4).set (far2 w) _).set (far2 w) _).set (far2 w) _).set (far2 w) _).set (far2 w) _
        · have ec : cmpV X Y = 0 := by unfold cmpV; rw [if_neg (by omega), if_pos hc]
          rw [ec]
          have HC : Hid _ := hc
          clear ec hc
          have d0 := hB3.r.c0
          have d1 := hB3.r.c1
          have d2 := hB3.r.c2
          have d3 := hB3.r.c3
          have d4 := hB3.r.c4
          have y0 := hB3.r.z 0
          have y1 := hB3.r.z 1
          have y2 := hB3.r.z 2
          have y3 := hB3.r.z 3
          have y4 := hB3.r.z 4
          go_wp2_with fail
          refine bodyPost_ret (v := .agg #[.int .i64 2, .bool false, .slice none 0 0, .int .i64 b, .bool false]) (by simp [results, Tryd.results19, go_sem, d0, d1, d2, d3, d4]) rfl ⟨_, rfl, ?_, ?_⟩
          · rw [show plusFin s t X Y b = .fin false 0 b false from by unfold plusFin; rw [if_neg hne, if_pos HC.out]]
            exact ⟨_, rfl, nat_nil _⟩
          · exact ((((hB3.q.set (far2 w) _).set (far2 w) _).set (far2 w) _).set (far2 w) _).set (far2 w) _
        · have ec : cmpV X Y = 1 := by unfold cmpV; rw [if_neg (by omega), if_neg (by omega)]
          rw [ec]
          have HC : Hid _ := hc
          clear ec hc
          go_wp2_with fail
          go_region_with (first | (go_at_call 47; refine (minus_any _ _ X Y _ (Q.nat (Q.refl _).drew J6.out) (Q.nat (Q.refl _).drew J7.out) (Nat.lt_of_le_of_lt (Nat.le_add_right _ _) hcap3.out) (Nat.le_of_lt HC.out)).mono ?_; rintro x w4 ⟨v4, rfl, hv4, q4⟩; obtain ⟨p4, b4, L4, C4, rfl, hI4⟩ := hv4; have n1 := q4.cell (p := ⟨w.heap.size, 1, none⟩) a1; have R := hB3.r.next ((Q.refl _).drew.trans q4); have d0 := R.c0; have d1 := R.c1; have d2 := R.c2; have d3 := R.c3; have d4 := R.c4; have y0 := R.z 0; have y1 := R.z 1; have y2 := R.z 2; have y3 := R.z 3; have y4 := R.z 4))
          all_goals
            go_wp2_with fail
            refine bodyPost_ret (v := .agg #[.int .i64 2, .bool s, .slice p4 L4 C4, .int .i64 b, .bool false]) (by simp [results, Tryd.results19, go_sem, d0, d1, d2, d3, d4]) rfl ⟨_, rfl, ?_, ?_⟩
            · rw [show plusFin s t X Y b = .fin s (X - Y) b false from by have := HC.out; unfold plusFin; rw [if_neg hne, if_neg (by omega), if_pos this]]
              exact ⟨_, rfl, natAt_but ⟨p4, b4, L4, C4, rfl, hI4⟩ d0 (fun a ha => by repeat rw [set_but _ ha])⟩
            · exact ((((((hB3.q.drew).trans q4).set (far2 w) _).set (far2 w) _).set (far2 w) _).set (far2 w) _).set (far2 w) _
      · have heq : s = t := by simpa using hst
        subst heq
        clear hst
        go_wp2_with fail
        go_region_with (first | (go_at_call 45; refine (plus_any _ _ X Y _ (Q.nat (Q.refl _).drew H6.out) (Q.nat (Q.refl _).drew H7.out) hcap3.out).mono ?_; rintro x w4 ⟨v4, rfl, hv4, q4⟩; obtain ⟨p4, b4, L4, C4, rfl, hI4⟩ := hv4; have n1 := q4.cell (p := ⟨w.heap.size, 1, none⟩) a1; have R := hB2.r.next ((Q.refl _).drew.trans q4); have d0 := R.c0; have d1 := R.c1; have d2 := R.c2; have d3 := R.c3; have d4 := R.c4; have y0 := R.z 0; have y1 := R.z 1; have y2 := R.z 2; have y3 := R.z 3; have y4 := R.z 4))
        all_goals
          go_wp2_with fail
          refine bodyPost_ret (v := .agg #[.int .i64 2, .bool s, .slice p4 L4 C4, .int .i64 b, .bool false]) (by simp [results, Tryd.results19, go_sem, d0, d1, d2, d3, d4]) rfl ⟨_, rfl, ?_, ?_⟩
          · rw [show plusFin s s X Y b = .fin s (X + Y) b false from by unfold plusFin; rw [if_pos rfl]]
            exact ⟨_, rfl, natAt_but ⟨p4, b4, L4, C4, rfl, hI4⟩ d0 (fun a ha => by repeat rw [set_but _ ha])⟩
          · exact ((((((hB2.q.drew).trans q4).set (far2 w) _).set (far2 w) _).set (far2 w) _).set (far2 w) _).set (far2 w) _

theorem plusnum_any (va vb : Value) (x y : RNum) (w : World) (hx : NumAt w va x) (hy : NumAt w vb y) (sx : small x) (sy : small y) :
    Calls Tryd.prog 19 #[va, vb] w fun e w' => ∃ v, e = .returned v ∧ NumAt w' v (plusR x y) ∧ Q w w' := by
  cases x using RNum.rec3 with
  | fin s n e m =>
    cases y using RNum.rec3 with
    | fin t k f g =>
      obtain ⟨nv, rfl, hn⟩ := hx
      obtain ⟨kv, rfl, hk⟩ := hy
      exact plus_fin s t m g nv kv n k e f w hn hk sx.1 sx.2.1 sx.2.2 sy.1 sy.2.1 sy.2.2
    | nan => exact plus_odd va vb _ _ w hx hy (fun _ _ _ _ _ _ _ _ h => by cases h.2)
    | inf t => exact plus_odd va vb _ _ w hx hy (fun _ _ _ _ _ _ _ _ h => by cases h.2)
  | nan => exact plus_odd va vb _ _ w hx hy (fun _ _ _ _ _ _ _ _ h => by cases h.1)
  | inf s => exact plus_odd va vb _ _ w hx hy (fun _ _ _ _ _ _ _ _ h => by cases h.1)
end Go.Proofs.YtmgpaheobhfioaaDoor
/- What the reference's Zero and TimesNum return: the exact product. -/
namespace Go.Proofs.YtmgpaheobhfioaaDoor
open Go.RowKit

def zeroB : RNum → Bool
  | ⟨some (.inr (_, n, _, m))⟩ => decide (n = 0) && !m
  | _ => false
set_option maxHeartbeats 1000000 in
theorem zero_any (v : Value) (x : RNum) (w : World) (hx : NumAt w v x) :
    Calls Tryd.prog 18 #[v] w fun e w' => e = .returned (.bool (zeroB x)) ∧ ∃ c, w' = w.alloc (.cells c 43) := by
  cases x using RNum.rec3 with
  | nan =>
    obtain ⟨b, e, m, rfl⟩ := hx
    go_enter Tryd.func18, Tryd.ntmps18
    go_wp2
    go_ret
    exact ⟨rfl, _, rfl⟩
  | inf s =>
    obtain ⟨e, m, rfl⟩ := hx
    go_enter Tryd.func18, Tryd.ntmps18
    go_wp2
    go_ret
    exact ⟨rfl, _, rfl⟩
  | fin s n e m =>
    obtain ⟨nv, rfl, p, b, L, C, rfl, hn⟩ := hx
    have hz := hn.pos
    by_cases h : L = 0
    · subst h
      have h0 : n = 0 := hz.2 rfl
      cases m
      all_goals
        go_enter Tryd.func18, Tryd.ntmps18
        go_wp2
        go_ret
        exact ⟨ret_bool (by first | rfl | (rw [h0]; rfl)), _, rfl⟩
    · have hb : ((L : Int) == 0) = false := by simp; omega
      have h0 : n ≠ 0 := fun g => h (hz.1 g)
      have H0 : Hid _ := h0
      clear hz h0
      go_enter Tryd.func18, Tryd.ntmps18
      go_wp2
      go_ret
      exact ⟨ret_bool (by show false = (decide (n = 0) && !m); rw [decide_eq_false H0.out]; rfl), _, rfl⟩

/-- The cells that TimesNum reads and writes. -/
structure TBox (w wc : World) (va vb : Value) (e f : Int) : Prop where
  q : Q w wc
  a2 : wc.cell? ⟨w.heap.size, 2, none⟩ = some va
  a3 : wc.cell? ⟨w.heap.size, 3, none⟩ = some (.int .i64 e)
  b2 : wc.cell? ⟨w.heap.size + 1, 2, none⟩ = some vb
  b3 : wc.cell? ⟨w.heap.size + 1, 3, none⟩ = some (.int .i64 f)
  r : Res5 wc (w.heap.size + 1 + 1)
theorem TBox.next {w wc wd : World} {va vb : Value} {e f : Int} (h : TBox w wc va vb e f) (q : Q wc wd) : TBox w wd va vb e f :=
  ⟨h.q.trans q, q.cell h.a2, q.cell h.a3, q.cell h.b2, q.cell h.b3, h.r.next q⟩

end Go.Proofs.YtmgpaheobhfioaaDoor
/- What the reference's Add, Scale and Half return of whatever samples: the exact number, rounded. -/
namespace Go.Proofs.YtmgpaheobhfioaaDoor
open Go.RowKit

end Go.Proofs.YtmgpaheobhfioaaDoor
