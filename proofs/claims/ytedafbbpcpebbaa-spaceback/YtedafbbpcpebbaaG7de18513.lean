/- What the reference's Round returns at binary32: the nearest word. -/
import Derived.Test.YtedafbbpcpebbaaG79cd64db
import Derived.Deep.Cut
import Derived.Deep.CutRange
import Derived.Deep.CutBlock
namespace Go.Proofs.Ytedafbbpcpebbaa
open Go.RowKit

/-- The cells that Round reads. -/
structure RBox (F E : Int) (w wc : World) (neg : Bool) (more : Bool) : Prop where
  q : Q w wc
  f0 : wc.cell? ⟨w.heap.size, 0, none⟩ = some (.int .i64 F)
  f1 : wc.cell? ⟨w.heap.size, 1, none⟩ = some (.int .i64 E)
  k1 : wc.cell? ⟨w.heap.size + 1, 1, none⟩ = some (.bool neg)
  k4 : wc.cell? ⟨w.heap.size + 1, 4, none⟩ = some (.bool more)
theorem RBox.next {F E : Int} {w wc wd : World} {neg more : Bool} (h : RBox F E w wc neg more) (q : Q wc wd) : RBox F E w wd neg more :=
  ⟨h.q.trans q, q.cell h.f0, q.cell h.f1, q.cell h.k1, q.cell h.k4⟩
theorem Q.drewN {a b : World} (h : Q a b) (n : Nat) : Q a (b.drewN n) := by
  induction n with
  | zero => exact h
  | succ n ih => exact ih.drew

theorem to_wrapped {n : Nat} {e fr least : Int} (hbl : blen n ≤ 6000) (e0 : -5000 ≤ e) (e1 : e ≤ 5000) (f0 : 0 ≤ fr) (f1 : fr ≤ 100) :
    (if IntKind.i64.wrap (IntKind.i64.wrap (↑(blen n) + e) - IntKind.i64.wrap (fr + 1)) < least then least else IntKind.i64.wrap (IntKind.i64.wrap (↑(blen n) + e) - IntKind.i64.wrap (fr + 1))) = toV n e fr least := by
  have a1 : IntKind.i64.wrap ((blen n : Int) + e) = (blen n : Int) + e := by rw [IntKind.wrap_i64]; omega
  have a2 : IntKind.i64.wrap (fr + 1) = fr + 1 := by rw [IntKind.wrap_i64]; omega
  have a3 : IntKind.i64.wrap ((blen n : Int) + e - (fr + 1)) = (blen n : Int) + e - (fr + 1) := by rw [IntKind.wrap_i64]; omega
  rw [a1, a2, a3]
  unfold toV
  split <;> omega

theorem restB_mono {a k d : Nat} (h : k ≤ d) (hk : restB a k = true) : restB a d = true := by
  induction d with
  | zero => rw [show k = 0 by omega] at hk; exact hk
  | succ d ih =>
    by_cases e : k = d + 1
    · rw [← e]; exact hk
    · exact restB_t (ih (by omega))
theorem below_more {more : Bool} {n k d : Nat} (h : k < d) (hk : (more || restB n k) = true) : (more || restB n k) = (more || restB n d) := by
  rw [hk]
  cases more
  · rw [Bool.false_or] at hk ⊢; exact (restB_mono (by omega) hk).symm
  · rfl
theorem kept_odd {n d : Nat} {more : Bool} (h1 : bitV n d = 1) (h2 : more = false) (h3 : restB n d = false) (hb : bitV (n / 2 ^ (d + 1)) 0 ≤ 1) :
    n / 2 ^ (d + 1) + ((bitV (n / 2 ^ (d + 1)) 0 : Int) == 1).toNat = n / 2 ^ (d + 1) + if bitV n (d + 1 - 1) = 1 ∧ (more.toNat = 1 ∨ n % 2 ^ (d + 1 - 1) ≠ 0 ∨ bitV (n / 2 ^ (d + 1)) 0 = 1) then 1 else 0 := by
  rw [show d + 1 - 1 = d by omega, h2]
  have h4 : n % 2 ^ d = 0 := by unfold restB at h3; simpa using h3
  rcases (by omega : bitV (n / 2 ^ (d + 1)) 0 = 0 ∨ bitV (n / 2 ^ (d + 1)) 0 = 1) with g | g
  · rw [g, if_neg (by simp [h4])]; rfl
  · rw [g, if_pos ⟨h1, Or.inr (Or.inr rfl)⟩]; rfl
theorem kept_below {n d : Nat} {more : Bool} (h1 : bitV n d = 1) (h2 : (more || restB n d) = true) :
    n / 2 ^ (d + 1) + true.toNat = n / 2 ^ (d + 1) + if bitV n (d + 1 - 1) = 1 ∧ (more.toNat = 1 ∨ n % 2 ^ (d + 1 - 1) ≠ 0 ∨ bitV (n / 2 ^ (d + 1)) 0 = 1) then 1 else 0 := by
  rw [show d + 1 - 1 = d by omega, if_pos]
  · rfl
  · refine ⟨h1, ?_⟩
    cases more
    · right; left
      unfold restB at h2
      simpa using h2
    · left; rfl

set_option maxHeartbeats 8000000 in
set_option maxRecDepth 1000000 in
theorem round32_fin (neg : Bool) (nv : Value) (n : Nat) (e : Int) (more : Bool) (w : World) (hn : NatAt w nv n) (hb : blen n ≤ 6000) (e0 : -5000 ≤ e) (e1 : e ≤ 5000)
    (hmore : more = true → n ≠ 0 ∧ e + 1 ≤ lastOf Ieee.single n e) :
    Calls Try.prog 66 #[.agg #[.int .i64 23, .int .i64 8], .agg #[.int .i64 2, .bool neg, nv, .int .i64 e, .bool more]] w
      fun x w' => x = .returned (.int .u64 ((Ieee.single.word neg (rungOf Ieee.single (2 * n + more.toNat) (e - 1)) : Nat) : Int)) ∧ Q w w' := by
  have hbl := hb
  have HMO : Hid _ := hmore
  clear hb hmore
  obtain ⟨T, hT⟩ : ∃ T : Int, T = toV n e 23 (-149) := ⟨_, rfl⟩
  have HT : Hid _ := hT
  have hT1 : T ≤ 12000 := by rw [hT]; unfold toV; omega
  have hT0 : -149 ≤ T := by rw [hT]; unfold toV; omega
  have hcase : ((blen n : Int) + e - 24 < -149 ∧ Hid (T = -149)) ∨ (¬ (blen n : Int) + e - 24 < -149 ∧ Hid (T = (blen n : Int) + e - 24)) := by
    unfold toV at hT
    by_cases h : (blen n : Int) + e - 24 < -149
    · exact Or.inl ⟨h, by show T = _; omega⟩
    · exact Or.inr ⟨h, by show T = _; omega⟩
  have HC : Hid _ := hcase
  clear hT hcase
  obtain ⟨pn, bn, Ln, Cn, rfl, hnI⟩ := hn
  have hn : NatAt w (.slice pn Ln Cn) n := ⟨pn, bn, Ln, Cn, rfl, hnI⟩
  go_enter Try.func66, Try.ntmps66
  go_wp2_with fail
  refine (bias_any 23 8 150 (by decide) _).mono ?_
  rintro x v1 ⟨rfl, rfl⟩
  go_upto_region 8 with fail
  go_cut [8] from 17 (fun s8 wc => s8 = .int .i64 T ∧ RBox 23 8 w wc neg more)
  case first =>
    have a1 : IntKind.i64.wrap ((blen n : Int) + e) = (blen n : Int) + e := by rw [IntKind.wrap_i64]; omega
    have a2 : IntKind.i64.wrap 24 = 24 := by decide
    have a3 : IntKind.i64.wrap ((blen n : Int) + e - 24) = (blen n : Int) + e - 24 := by rw [IntKind.wrap_i64]; omega
    rcases HC.out with ⟨h1, h2⟩ | ⟨h1, h2⟩
    all_goals
      go_region_held3 (fun w' => w'.cell? ⟨w.heap.size, 0, none⟩ = some (.int .i64 23)) (first | (simp [go_sem]; done) | go_keep) (first | (go_at_call 86; refine (bits_any _ n _ (Q.nat (((((Q.refl w).cells _ _).cells _ _).cells _ _).drew.drew) hn)).mono ?_; rintro x v1 ⟨rfl, rfl⟩))
      all_goals
        go_wp2_with fail
        go_meet
        case rel =>
          go_light
          exact ⟨congrArg (Value.int .i64) h2.out.symm, ((((Q.refl w).cells _ _).cells _ _).cells _ _).drew.drew, by simp [go_sem], by simp [go_sem], by simp [go_sem], by simp [go_sem]⟩
  case rest =>
    obtain ⟨rfl, hB⟩ := hcut
    have b0 := hB.f0
    have b4 := hB.k4
    go_upto_if 54 with fail
    go_cut [5, 9] from 17 (fun s5 s9 wc => ∃ (up : Bool) (m : Nat), s9 = .bool up ∧ NatAt wc s5 m ∧ m + up.toNat = keptV n more.toNat e T ∧ RBox 23 8 w wc neg more)
    case first =>
      by_cases hTe : e < T
      · obtain ⟨d, hd⟩ : ∃ d : Nat, T = e + (d + 1 : Nat) := ⟨(T - e - 1).toNat, by omega⟩
        have hdz : T - e - 1 = (d : Int) := by omega
        have hdz2 : T - e = ((d + 1 : Nat) : Int) := by omega
        have HD : Hid _ := hd
        clear hd
        have hdn : d ≤ 20000 := by omega
        have hbv := bitV_le n d
        go_wp2_with fail
        refine (bit_any _ n d _ (hB.q.nat hn) hdn).mono ?_
        rintro x wd ⟨rfl, hwd⟩
        subst hwd
        go_upto_block 0 with fail
        go_cut [11] from 17 (fun s11 wx => s11 = .bool (more || restB n d) ∧ wd = wx)
        case first =>
          go_wp2_with fail
          go_loopg [11, 12] d (fun g s11 s12 wr => wd = wr ∧ ∃ k : Nat, k ≤ d ∧ g = d - k ∧ s12 = .int .i64 k ∧ s11 = .bool (more || restB n k))
          case atStart => exact ⟨rfl, 0, Nat.zero_le _, rfl, rfl, by rw [restB_zero, Bool.or_false]⟩
          case round =>
            obtain ⟨rfl, k, hk, rfl, rfl, rfl⟩ := hrel
            by_cases hkd : k < d
            · have hkz : (k : Int) < (d : Int) := by omega
              cases hbel : (more || restB n k)
              · have hf : more = false ∧ restB n k = false := by simpa using hbel
                have HF : Hid _ := restB_f hf.2
                have hm0 := hf.1
                subst hm0
                clear hf
                go_wp2_with fail
                refine (bit_any _ n k _ (hB.q.nat hn) (by omega)).mono ?_
                rintro x we ⟨rfl, hwe⟩
                subst hwe
                go_wp2_with fail
                go_roundg (d - (k + 1))
                case measure => go_light; omega
                case rel => go_light; exact ⟨rfl, k + 1, by omega, rfl, by simp, congrArg Value.bool (by rw [HF.out, Bool.false_or])⟩
              · go_wp2_with fail
                go_meet
                case rel =>
                  go_light
                  exact ⟨congrArg Value.bool (by rw [← below_more hkd hbel, ← hbel]), rfl⟩
            · obtain rfl : k = d := by omega
              have hkz : ¬ (k : Int) < (k : Int) := by omega
              go_wp2_with fail
              go_meet
              case rel => go_light; exact ⟨rfl, rfl⟩
        case rest =>
          obtain ⟨rfl, rfl⟩ := hcut
          have HK : Hid (keptV n more.toNat e T = _) := kept_down (d + 1) HD.out (by omega) (by cases more <;> decide)
          go_wp2_with fail
          refine (down_any _ n (d + 1) _ (hB.q.nat hn) (by omega)).mono ?_
          rintro x wf ⟨v, rfl, hv, qv⟩
          have hbv2 := bitV_le (n / 2 ^ (d + 1)) 0
          have HV : Hid (NatAt wf v (n / 2 ^ (d + 1))) := hv
          cases hhalf : ((bitV n d : Int) == 1)
          · have hh : bitV n d ≠ 1 := by have := beq_eq_false_iff_ne.1 hhalf; omega
            have HH : Hid _ := hh
            clear hh hbv hbv2
            go_wp2_with fail
            go_meet
            case rel =>
              go_light
              exact ⟨false, n / 2 ^ (d + 1), rfl, HV.out, by rw [HK.out, if_neg (fun c => HH.out c.1)]; rfl, hB.next qv⟩
          · have hh : bitV n d = 1 := by have := beq_iff_eq.1 hhalf; omega
            have HH : Hid _ := hh
            clear hh hbv
            cases hbel : (more || restB n d)
            · have hf : more = false ∧ restB n d = false := by simpa using hbel
              have HF : Hid _ := hf
              clear hf
              go_wp2_with fail
              refine (bit_any v _ 0 _ HV.out (by decide)).mono ?_
              rintro x wg ⟨rfl, hwg⟩
              subst hwg
              go_wp2_with fail
              go_meet
              case rel =>
                go_light
                refine ⟨((bitV (n / 2 ^ (d + 1)) 0 : Int) == 1), n / 2 ^ (d + 1), rfl, HV.out, ?_, hB.next qv⟩
                rw [HK.out]
                exact kept_odd HH.out HF.out.1 HF.out.2 hbv2
            · have HF : Hid _ := hbel
              go_wp2_with fail
              go_meet
              case rel =>
                go_light
                refine ⟨true, n / 2 ^ (d + 1), rfl, HV.out, ?_, hB.next qv⟩
                rw [HK.out]
                exact kept_below HH.out HF.out
      · obtain ⟨d, hd⟩ : ∃ d : Nat, e = T + (d : Nat) := ⟨(e - T).toNat, by omega⟩
        have hdz : e - T = (d : Int) := by omega
        have HD : Hid _ := hd
        clear hd
        go_wp2_with fail
        have HU : Hid (n * 2 ^ d < 2 ^ 24) := by
          have h1 := HD.out
          have h2 := HT.out
          have h3 := blen_lt n
          unfold toV at h2
          by_cases h0 : n = 0
          · show n * 2 ^ d < 2 ^ 24
            rw [h0, Nat.zero_mul]; decide
          · show n * 2 ^ d < 2 ^ 24
            have h4 : blen n + d ≤ 24 := by omega
            have h5 : n * 2 ^ d < 2 ^ blen n * 2 ^ d := Nat.mul_lt_mul_of_pos_right h3 (Nat.two_pow_pos d)
            rw [← Nat.pow_add] at h5
            exact Nat.lt_of_lt_of_le h5 (Nat.pow_le_pow_right (by decide) h4)
        refine (up_any _ n d _ (hB.q.nat hn) (lt_cap HU.out (by decide))).mono ?_
        rintro x wf ⟨v, rfl, hv, qv⟩
        have HV : Hid _ := hv
        clear hv
        go_wp2_with fail
        go_meet
        case rel =>
          go_light
          have hm0 : more = false := by
            cases hmm : more
            · rfl
            · have h1 := HMO.out hmm
              have h2 := HT.out
              have h3 := toV_last Ieee.single e h1.1
              rw [single_least] at h3
              have h4 : toV n e 23 (-149) = lastOf Ieee.single n e := h3
              have h5 := HD.out
              omega
          exact ⟨false, n * 2 ^ d, rfl, HV.out, by rw [hm0]; exact (kept_up d HD.out).symm, hB.next qv⟩
    case rest =>
      obtain ⟨up, m, rfl, hm, hk, hB2⟩ := hcut
      have HK : Hid _ := hk
      clear hk b0 b4 hB
      obtain ⟨K, hK⟩ : ∃ K, K = keptV n more.toNat e T := ⟨_, rfl⟩
      have HKK : Hid _ := hK
      have hfacts := kept_facts Ieee.single n more.toNat e (by cases more <;> decide) (fun h => (HMO.out (by cases more <;> simp_all)).1)
      rw [single_binade, single_least, single_frac, single_inf] at hfacts
      have hTn : toV n e ((23 : Nat) : Int) (-149) = T := HT.out.symm
      rw [hTn, ← hK] at hfacts
      have HFA : Hid _ := hfacts
      have hK24 : K ≤ 16777216 := by have := hfacts.1; omega
      clear hfacts hK hTn
      go_upto_if 103 with fail
      go_cut [5] from 17 (fun s5 wc => NatAt wc s5 K ∧ RBox 23 8 w wc neg more)
      case first =>
        cases up
        · have hmk : m = K := by have h1 := HK.out; rw [← HKK.out] at h1; simpa using h1
          go_wp2_with fail
          go_meet
          case rel => go_light; rw [← hmk]; exact ⟨hm, hB2⟩
        · have hmk : m + 1 = K := by have h1 := HK.out; rw [← HKK.out] at h1; simpa using h1
          have HMK : Hid _ := hmk
          clear hmk
          go_wp2_with fail
          refine (natof_nat 1 _ (by decide)).mono ?_
          rintro x wf ⟨v, rfl, hv, qv⟩
          go_wp2_with fail
          refine (plus_any _ _ m 1 _ (qv.nat hm) hv (lt_cap (k := 25) (by have := HMK.out; omega) (by decide))).mono ?_
          rintro x wg ⟨v2, rfl, hv2, qv2⟩
          go_wp2_with fail
          go_meet
          case rel => go_light; rw [← HMK.out]; exact ⟨hv2, (hB2.next qv).next qv2⟩
      case rest =>
        obtain ⟨hs5, hB3⟩ := hcut
        have b0 := hB3.f0
        have b1 := hB3.f1
        have bk := hB3.k1
        obtain ⟨K', T', c1, c2, c3, c4, c5, c6⟩ := carried HFA.out.1 HFA.out.2.1 HFA.out.2.2.1 (fun h => by
          have h1 := HFA.out.2.2.2
          have h2 : more = false := by
            cases hmm : more
            · rfl
            · exact absurd h (HMO.out hmm).1
          rw [HKK.out, h, h2]; exact kept_zero _ _) HFA.out.2.2.2
        have C5 : Hid _ := c5
        have C6 : Hid _ := c6
        have C4 : Hid _ := c4
        clear c4 c5 c6
        have a2 : IntKind.i64.wrap 24 = 24 := by decide
        go_upto_region 23 with fail
        go_cut [112] from 17 (fun s112 wx => s112 = .bool (decide (24 < (blen K : Int))) ∧ Q wc wx)
        case first =>
          go_region_held3 (fun w' => w'.cell? ⟨w.heap.size, 0, none⟩ = some (.int .i64 23)) (first | (simp [go_sem, b0]; done) | go_keep) (first | (go_at_call 86; refine (bits_any _ K _ ((Q.refl wc).drew.nat hs5)).mono ?_; rintro x v1 ⟨rfl, rfl⟩))
          all_goals
            go_wp2_with fail
            go_meet
            case rel => go_light; exact ⟨rfl, (Q.refl wc).drew⟩
        case rest =>
          obtain ⟨rfl, qx⟩ := hcut
          have hB4 := hB3.next qx
          have hs5b := qx.nat hs5
          clear b0 b1 bk hB3 hs5
          go_upto_if 112 with fail
          go_cut [5, 8] from 17 (fun s5 s8 wx => NatAt wx s5 K' ∧ s8 = .int .i64 T' ∧ RBox 23 8 w wx neg more)
          case first =>
            rcases C4.out with ⟨g1, g2, g3⟩ | ⟨g1, g2, g3⟩
            · have hd : (24 : Int) < (blen K : Int) := by rw [g1]; decide
              have G1 : Hid _ := g1
              have G2 : Hid _ := g2
              have G3 : Hid _ := g3
              clear g1 g2 g3
              go_wp2_with fail
              refine (down_any _ K 1 _ hs5b (by decide)).mono ?_
              rintro x wf ⟨v, rfl, hv, qv⟩
              go_wp2_with fail
              go_meet
              case rel =>
                go_light
                refine ⟨?_, congrArg (Value.int .i64) G3.out.symm, hB4.next qv⟩
                have : K / 2 ^ 1 = K' := by rw [G1.out, G2.out]
                rw [← this]; exact hv
            · have hd : ¬ (24 : Int) < (blen K : Int) := by
                have := blen_le (n := K) (k := 24) (by omega)
                omega
              have G2 : Hid _ := g2
              have G3 : Hid _ := g3
              clear g1 g2 g3
              go_wp2_with fail
              go_meet
              case rel => go_light; exact ⟨by rw [G2.out]; exact hs5b, congrArg (Value.int .i64) G3.out.symm, hB4⟩
          case rest =>
            obtain ⟨hs6, rfl, hB5⟩ := hcut
            have b0 := hB5.f0
            have b1 := hB5.f1
            have bk := hB5.k1
            have hlow : lowV K' = K' := Nat.mod_eq_of_lt (by omega)
            have w2 : IntKind.u64.wrap 8388608 = 8388608 := by decide
            have w3 : IntKind.u64.wrap 8388607 = 8388607 := by decide
            have w4 : IntKind.u64.wrap 2139095040 = 2139095040 := by decide
            by_cases hsub : K' < 8388608
            · have hz : (K' : Int) < 8388608 := by omega
              have hor := or_word (neg := neg) (r := K') (by omega)
              go_wp2_with fail
              refine (low_any _ K' _ hs6).mono ?_
              rintro x wg ⟨rfl, hwg⟩
              subst hwg
              rw [hlow]
              go_wp2_with fail
              refine (sign_any 23 8 false neg (by decide) _).mono ?_
              rintro x wh ⟨rfl, rfl⟩
              go_wp2_with fail
              go_ret
              exact ⟨ret_int (by rw [C5.out hsub]), (hB5.q).cells _ _⟩
            · have hz : ¬ (K' : Int) < 8388608 := by omega
              obtain ⟨X, hX⟩ : ∃ X : Nat, T' + 150 = (X : Int) := ⟨(T' + 150).toNat, by omega⟩
              have hXr := C6.out (by omega)
              rw [show (T' + 149).toNat = X - 1 by omega] at hXr
              have HX : Hid _ := hXr
              have HX1 : Hid (1 ≤ X) := by show 1 ≤ X; omega
              have hX2 : X ≤ 13000 := by omega
              have hzb : decide ((K' : Int) < 8388608) = false := decide_eq_false hz
              have HX0 : Hid _ := hX
              have HX2 : Hid _ := hX2
              clear hXr w2 w3 w4 hX hX2 c2 c3
              go_wp2_with fail
              refine (low_any _ K' _ hs6).mono ?_
              rintro x wg ⟨rfl, hwg⟩
              subst hwg
              rw [hlow]
              go_wp2_with fail
              refine (bias_any 23 8 150 (by decide) _).mono ?_
              rintro x wh ⟨rfl, hwh⟩
              have hB6 : RBox 23 8 w wh neg more := hB5.next (by rw [hwh]; exact ((Q.refl _).cells _ _).drew)
              have b0 := hB6.f0
              have b1 := hB6.f1
              have bk := hB6.k1
              have hX := HX0.out
              have hX2 := HX2.out
              clear hz hzb hwh
              go_wp2_with fail
              refine (top_any 23 8 255 (by decide) _).mono ?_
              rintro x wi ⟨rfl, hwi⟩
              have hB7 : RBox 23 8 w wi neg more := hB6.next (by rw [hwi]; exact (Q.refl _).cells _ _)
              have b0 := hB7.f0
              have b1 := hB7.f1
              have bk := hB7.k1
              clear hwi
              by_cases hinf : 255 ≤ X
              · have hiz : (255 : Int) ≤ (X : Int) := by omega
                have hib : decide ((255 : Int) ≤ (X : Int)) = true := decide_eq_true hiz
                go_wp2_with fail
                have w4 : IntKind.u64.wrap 2139095040 = 2139095040 := by decide
                have hor := or_word (neg := neg) (r := 2139095040) (by decide)
                rw [show ((2139095040 : Nat) : Int) = 2139095040 from rfl] at hor
                obtain ⟨Wd, hWd⟩ : ∃ Wd : Nat, Wd = Ieee.single.word neg 2139095040 := ⟨_, rfl⟩
                rw [← hWd] at hor
                have HWD : Hid _ := hWd
                clear hWd
                go_region_held3 (fun w' => w'.cell? ⟨w.heap.size, 0, none⟩ = some (.int .i64 23) ∧ w'.cell? ⟨w.heap.size, 1, none⟩ = some (.int .i64 8) ∧ w'.cell? ⟨w.heap.size + 1, 1, none⟩ = some (.bool neg)) (first | (simp [World.cell?_alloc_some, b0, b1, bk]; done) | (simp [World.cell?_alloc_some, b0, b1, bk, go_sem]; done) | go_keep) (first | (go_at_call 85; refine (sign_any 23 8 false neg (by decide) _).mono ?_; rintro x v1 ⟨rfl, rfl⟩) | (go_at_call 82; refine (top_any 23 8 255 (by decide) _).mono ?_; rintro x v1 ⟨rfl, rfl⟩))
                all_goals
                  go_wp2_with fail
                  go_ret
                  refine ⟨ret_int ?_, ((hB7.q.cells _ _).cells _ _).drew⟩
                  rw [HX.out, HWD.out, Nat.min_eq_right]
                  have := HX1.out
                  omega
              · have hiz : ¬ (255 : Int) ≤ (X : Int) := by omega
                have hib : decide ((255 : Int) ≤ (X : Int)) = false := decide_eq_false hiz
                go_wp2_with fail
                have w2 : IntKind.u64.wrap 8388608 = 8388608 := by decide
                have w3 : IntKind.u64.wrap 8388607 = 8388607 := by decide
                have hmask : bits .and .u64 (K' : Int) 8388607 = ((K' % 8388608 : Nat) : Int) := by
                  have : bits .and .u64 (K' : Int) 8388607 = (K' : Int) % 8388608 := by go_bits2
                  rw [this]; rfl
                obtain ⟨fr, hfr⟩ : ∃ fr, fr = K' % 8388608 := ⟨_, rfl⟩
                rw [← hfr] at hmask
                have hfb : fr < 8388608 := by omega
                have HKF : Hid (K' = 8388608 + fr) := by show K' = 8388608 + fr; omega
                have hxb : IntKind.u64.wrap (X : Int) = (X : Int) := u64_wrap (by omega) (by omega)
                obtain ⟨Y, hY⟩ : ∃ Y, Y = X * 8388608 := ⟨_, rfl⟩
                have hyw : IntKind.u64.wrap ((X : Int) * 8388608) = (Y : Int) := by
                  rw [u64_wrap (by omega) (by omega), hY]; omega
                have ho1 := or_word (neg := neg) (r := Y) (by omega)
                have ho2 := or_word2 (neg := neg) (x := X) (fr := fr) (by omega) hfb
                rw [← hY] at ho2
                obtain ⟨W1, hW1⟩ : ∃ W1 : Nat, W1 = Ieee.single.word neg Y := ⟨_, rfl⟩
                obtain ⟨W2, hW2⟩ : ∃ W2 : Nat, W2 = Ieee.single.word neg (Y + fr) := ⟨_, rfl⟩
                rw [← hW1] at ho1 ho2
                rw [← hW2] at ho2
                have HW2 : Hid _ := hW2
                have HY : Hid _ := hY
                clear hW1 hW2 hY hfr hfb hinf
                go_region_held3 (fun w' => w'.cell? ⟨w.heap.size, 0, none⟩ = some (.int .i64 23) ∧ w'.cell? ⟨w.heap.size, 1, none⟩ = some (.int .i64 8) ∧ w'.cell? ⟨w.heap.size + 1, 1, none⟩ = some (.bool neg)) (first | (simp [World.cell?_alloc_some, b0, b1, bk]; done) | (simp [World.cell?_alloc_some, b0, b1, bk, go_sem]; done) | go_keep) (first | (go_at_call 85; refine (sign_any 23 8 false neg (by decide) _).mono ?_; rintro x v1 ⟨rfl, rfl⟩) | (go_at_call 82; refine (top_any 23 8 255 (by decide) _).mono ?_; rintro x v1 ⟨rfl, rfl⟩))
                all_goals
                  go_wp2_with fail
                  go_ret
                  refine ⟨ret_int ?_, (hB7.q.cells _ _).drew⟩
                  rw [HX.out, HW2.out, Nat.min_eq_left]
                  · have h1 := HX1.out
                    have h2 := HKF.out
                    have h3 := HY.out
                    congr 2
                    omega
                  · have h1 := HX1.out
                    have h2 := HKF.out
                    omega
end Go.Proofs.Ytedafbbpcpebbaa
