/- The scale there and back: Exp of Log of a finite sample above 0 is at most 32 keys off, from 1/4 to 4 it is that sample; Log of Exp of what lies between -127 and 128 differs by at most 2^-24, from 1 on in size not at all; powers of two; the chapter's examples hold; no condition. -/
import Derived.Test.YtedafbbpcpebbabRows
import Derived.WalkKit
import Derived.ProofKit
import Derived.OpenShut
import Derived.Test.YtedafbbpcpebbabG6dbe87d9
import Derived.Test.YtedafbbpcpebbabG708bc4ac
namespace Go.Proofs.Ytedafbbpcpebbab
open Go.ChangeShapes Go.WideShapes Go.ChangeAt Go.RowKit
set_option linter.unusedVariables false

theorem spaceLogBack_own : ownKnob Try.prog.godebug = none := by kernel_rfl

theorem zm24 {c : Nat} (hc : c = 925) : ∃ P : Nat, zm 1 (-24) = P * 2 ^ c ∧ 2 ^ 125 = P := by
  obtain ⟨j, hj⟩ : ∃ j : Nat, j = ((-24 : Int) + 1074).toNat := ⟨_, rfl⟩
  obtain ⟨d, hd⟩ : ∃ d : Nat, d = 125 := ⟨_, rfl⟩
  have h1 : j = d + c := by omega
  refine ⟨2 ^ d, ?_, by rw [hd]⟩
  unfold zm
  rw [Nat.one_mul, ← hj, h1, Nat.pow_add]
theorem off_small {y b : Nat} (h : (sval32 y - sval32 b).natAbs ≤ 2 ^ 125) : (sampleZ y - sampleZ b).natAbs ≤ zm 1 (-24) := by
  obtain ⟨c, hc⟩ : ∃ c : Nat, c = 925 := ⟨_, rfl⟩
  obtain ⟨P, h1, h2⟩ := zm24 hc
  rw [samp_eq y hc, samp_eq b hc, ← Int.sub_mul, Int.natAbs_mul, Int.natAbs_pow, show (2 : Int).natAbs = 2 from rfl, h1]
  rw [h2] at h
  exact Nat.mul_le_mul_right _ h
theorem wrap_diff {B x : Nat} {d : Int} (hB : (B : Int) ≤ 2139095040) (hx : (x : Int) ≤ 4294967295) (hd : (B : Int) - (x : Int) = d) : wrap64 (wrap64 (B : Int) - wrap64 (x : Int)) = d := by
  have e1 : wrap64 (B : Int) = B := by unfold wrap64; omega
  have e2 : wrap64 (x : Int) = x := by unfold wrap64; omega
  rw [e1, e2, hd]
  unfold wrap64; omega
theorem wrap_diff2 {B x : Nat} {d : Int} (hB : (B : Int) ≤ 2139095040) (hx : (x : Int) ≤ 4294967295) (hd : (B : Int) - (x : Int) = d) : wrap64 (wrap64 (B : Int) - (x : Int)) = d := by
  have e1 : wrap64 (B : Int) = B := by unfold wrap64; omega
  rw [e1, hd]
  unfold wrap64; omega
theorem tmod_bd (k : Int) : ∃ r s : Int, k.tmod 254 = r ∧ -253 ≤ r ∧ r ≤ 253 ∧ (r + 254).tmod 254 = s ∧ (r + 254) % 254 = s ∧ 0 ≤ s ∧ s ≤ 253 := by
  have h1 : -254 < k.tmod 254 := by have := Int.lt_tmod_of_pos k (show (0 : Int) < 254 by decide); omega
  have h2 : k.tmod 254 < 254 := Int.tmod_lt_of_pos k (by decide)
  refine ⟨k.tmod 254, (k.tmod 254 + 254) % 254, rfl, by omega, by omega, Int.tmod_eq_emod_of_nonneg (by omega), rfl, by omega, by omega⟩
set_option maxHeartbeats 4000000 in
theorem spaceLogBack_walk (a0 : Int) (a1 : Int) (a2 : Int) (w0 : (Lit.int .u32 a0).wf = true) (w1 : (Lit.int .u32 a1).wf = true) (w2 : (Lit.int .i64 a2).wf = true) (w : World) :
    Calls Try.prog 3 #[.int .u32 a0, .int .u32 a1, .int .i64 a2] w fun e w' => e = .returned (.bool true) ∧ Grown w w' := by
  obtain ⟨x0, x1⟩ := bounds_u32 w0
  obtain ⟨y0, y1⟩ := bounds_u32 w1
  obtain ⟨x, rfl⟩ := Int.eq_ofNat_of_zero_le x0
  obtain ⟨y, rfl⟩ := Int.eq_ofNat_of_zero_le y0
  have hx : x < 4294967296 := by omega
  have hy : y < 4294967296 := by omega
  have fx := fun w => fin7_any x hx w
  have fy := fun w => fin7_any y hy w
  have ky := fun w => key7_any y hy w
  have k1 := fun w => key7_any 3271426048 (by decide) w
  have k2 := fun w => key7_any 1124073472 (by decide) w
  rw [show srung32 3271426048 = -1123942400 from by decide] at k1
  rw [show srung32 1124073472 = 1124073472 from by decide] at k2
  obtain ⟨CA, hCA⟩ : ∃ CA : Bool, CA = decide (0 < x ∧ x < 2139095040) := ⟨_, rfl⟩
  obtain ⟨CY, hCY⟩ : ∃ CY : Bool, CY = decide (rung32 y < 2139095040 ∧ -1123942400 < srung32 y ∧ srung32 y < 1124073472) := ⟨_, rfl⟩
  have HCA : Hid (CA = decide (0 < x ∧ x < 2139095040)) := hCA
  have HCY : Hid (CY = decide (rung32 y < 2139095040 ∧ -1123942400 < srung32 y ∧ srung32 y < 1124073472)) := hCY
  have HX : Hid (x < 4294967296 ∧ y < 4294967296) := ⟨hx, hy⟩
  clear x0 x1 y0 y1 hCA hCY w0 w1
  go_enter Try.func3, Try.ntmps3
  go_wp2_with fail
  refine (known7_any _).mono ?_
  rintro e v1 ⟨rfl, q1⟩
  have Q1 : Hid (Q w v1) := q1
  clear q1
  go_upto_region 3 with fail
  go_cut [22] from 12 to 22 (fun s22 wx => s22 = .bool CA ∧ Hid (Q w wx))
  case first =>
    by_cases h1 : x < 2147483648
    · have t1 : ((x : Int) / 2147483648 == 0) = true := by rw [beq_iff_eq]; omega
      by_cases h2 : 0 < x
      · by_cases h3 : x < 2139095040
        · have hf : rung32 x < 2139095040 := by unfold rung32; omega
          rw [decide_eq_true hf] at fx
          have ec : CA = true := by rw [HCA.out]; exact decide_eq_true ⟨h2, h3⟩
          have t2 : (0 : Int) < (x : Int) := by omega
          subst ec
          clear h1 h2 h3 hf hx hy
          generalize (x : Int) = X at *
          go_wp2_with fail
          refine (fx _).mono ?_
          rintro e v2 ⟨rfl, rfl⟩
          go_wp2_with fail
          go_meet
          exact ⟨rfl, Q1⟩
        · have hf : ¬ rung32 x < 2139095040 := by unfold rung32; omega
          rw [decide_eq_false hf] at fx
          have ec : CA = false := by rw [HCA.out]; exact decide_eq_false (fun h => h3 h.2)
          have t2 : (0 : Int) < (x : Int) := by omega
          subst ec
          clear h1 h2 h3 hf hx hy
          generalize (x : Int) = X at *
          go_wp2_with fail
          refine (fx _).mono ?_
          rintro e v2 ⟨rfl, rfl⟩
          go_wp2_with fail
          go_meet
          exact ⟨rfl, Q1⟩
      · have ec : CA = false := by rw [HCA.out]; exact decide_eq_false (fun h => h2 h.1)
        have t2 : decide ((0 : Int) < (x : Int)) = false := decide_eq_false (by omega)
        subst ec
        clear h1 h2 hx hy
        generalize (x : Int) = X at *
        go_wp2_with fail
        go_meet
        exact ⟨rfl, Q1⟩
    · have t1 : ((x : Int) / 2147483648 == 0) = false := by rw [beq_eq_false_iff_ne]; omega
      have ec : CA = false := by rw [HCA.out]; exact decide_eq_false (fun h => by omega)
      subst ec
      clear h1 hx hy
      generalize (x : Int) = X at *
      go_wp2_with fail
      go_meet
      exact ⟨rfl, Q1⟩
  case rest =>
    obtain ⟨rfl, Q2⟩ := hcut
    clear Q1
    go_upto_if 22 with fail
    go_cut [7, 8] from 23 to 53 (fun s7 s8 wx => Hid (Q w wx))
    case first =>
      cases hc : CA
      · subst hc
        clear hx hy
        go_wp2_with fail
        go_meet
        exact Q2
      · have h2 : 0 < x ∧ x < 2139095040 := of_decide_eq_true (HCA.out.symm.trans hc)
        subst hc
        obtain ⟨h2, h3⟩ := h2
        have nn : nanN x = false := by rw [nanN_rung]; exact decide_eq_false (by unfold rung32; omega)
        have hl : logV x = logP x := (logV_pos hx nn (by rw [srung_small (by omega)]; omega) (by omega)).1
        obtain ⟨m, m1, m2, m3, m4, m5, m6⟩ := exp_log h3 h2
        have c1 := fun w => log_any x hx w
        have c2 := fun w => exp_any _ (logP_lt x) w
        rw [hl] at c1
        generalize expW (logP x) = B at *
        generalize logP x = LP at *
        have t1 : ((B : Int) / 2147483648 == 1) = false := by rw [beq_eq_false_iff_ne]; omega
        have hd : ∃ d : Int, (B : Int) - (x : Int) = d ∧ d ≤ 32 ∧ -32 ≤ d ∧ (1048576000 ≤ x → x ≤ 1082130432 → d = 0) := by
          refine ⟨_, rfl, ?_⟩
          unfold nOf at *
          split at m1 <;> omega
        obtain ⟨d, d0, d1, d2, d3⟩ := hd
        clear m1 m2 m3 m4 m5 nn hl
        have wB : (B : Int) ≤ 2139095040 := by omega
        have wd : wrap64 (wrap64 (B : Int) - wrap64 (x : Int)) = d := wrap_diff wB (by omega) d0
        have wd2 : wrap64 (wrap64 (B : Int) - (x : Int)) = d := wrap_diff2 wB (by omega) d0
        clear d0
        have t2 : decide (32 < d) = false := decide_eq_false (by omega)
        have t3 : decide (d < -32) = false := decide_eq_false (by omega)
        have D3 : Hid (1048576000 ≤ x → x ≤ 1082130432 → d = 0) := d3
        clear m6 wB d1 d2 d3 h2 h3 hy
        clear ky k1 k2 fy
        by_cases g1 : 1048576000 ≤ x
        · have s1 : (1048576000 : Int) ≤ (x : Int) := by omega
          by_cases g2 : x ≤ 1082130432
          · have s2 : (x : Int) ≤ 1082130432 := by omega
            have hz : d = 0 := D3.out g1 g2
            have t4 : (d != 0) = false := by rw [hz]; rfl
            clear g1 g2 hx D3 HCA HX hz
            generalize (x : Int) = X at *
            generalize (B : Int) = BB at *
            go_wp2_with fail
            refine (c1 _).mono ?_
            rintro e v2 ⟨rfl, q2⟩
            go_wp2_with fail
            refine (c2 _).mono ?_
            rintro e v3 ⟨rfl, q3⟩
            go_wp2_with fail
            go_meet
            exact Q2.out.trans (q2.trans q3)
          · have s2 : decide ((x : Int) ≤ 1082130432) = false := decide_eq_false (by omega)
            clear g1 g2 hx D3 HCA HX
            generalize (x : Int) = X at *
            generalize (B : Int) = BB at *
            go_wp2_with fail
            refine (c1 _).mono ?_
            rintro e v2 ⟨rfl, q2⟩
            go_wp2_with fail
            refine (c2 _).mono ?_
            rintro e v3 ⟨rfl, q3⟩
            go_wp2_with fail
            go_meet
            exact Q2.out.trans (q2.trans q3)
        · have s1 : decide ((1048576000 : Int) ≤ (x : Int)) = false := decide_eq_false (by omega)
          clear g1 hx D3 HCA HX
          generalize (x : Int) = X at *
          generalize (B : Int) = BB at *
          go_wp2_with fail
          refine (c1 _).mono ?_
          rintro e v2 ⟨rfl, q2⟩
          go_wp2_with fail
          refine (c2 _).mono ?_
          rintro e v3 ⟨rfl, q3⟩
          go_wp2_with fail
          go_meet
          exact Q2.out.trans (q2.trans q3)
    case rest =>
      have Q3 := hcut
      clear hcut Q2
      go_upto_region 8 with fail
      go_cut [67] from 54 to 67 (fun s67 wx => s67 = .bool CY ∧ Hid (Q w wx))
      case first =>
        by_cases h1 : rung32 y < 2139095040
        · rw [decide_eq_true h1] at fy
          rcases Int.lt_or_le (-1123942400) (srung32 y) with h2 | h2
          · rcases Int.lt_or_le (srung32 y) 1124073472 with h3 | h3
            · have ec : CY = true := by rw [HCY.out]; exact decide_eq_true ⟨h1, h2, h3⟩
              subst ec
              clear h1 hx hy HCA HCY HX
              generalize srung32 y = SY at *
              go_wp2_with fail
              refine (fy _).mono ?_
              rintro e v2 ⟨rfl, rfl⟩
              go_wp2_with fail
              refine (ky _).mono ?_
              rintro e v3 ⟨rfl, rfl⟩
              go_wp2_with fail
              refine (k1 _).mono ?_
              rintro e v4 ⟨rfl, rfl⟩
              go_wp2_with fail
              refine (ky _).mono ?_
              rintro e v5 ⟨rfl, rfl⟩
              go_wp2_with fail
              refine (k2 _).mono ?_
              rintro e v6 ⟨rfl, rfl⟩
              go_wp2_with fail
              go_meet
              exact ⟨rfl, Q3⟩
            · have ec : CY = false := by rw [HCY.out]; exact decide_eq_false (fun h => by omega)
              have t3 : decide (srung32 y < 1124073472) = false := decide_eq_false (by omega)
              subst ec
              clear h1 h3 hx hy HCA HCY HX
              generalize srung32 y = SY at *
              go_wp2_with fail
              refine (fy _).mono ?_
              rintro e v2 ⟨rfl, rfl⟩
              go_wp2_with fail
              refine (ky _).mono ?_
              rintro e v3 ⟨rfl, rfl⟩
              go_wp2_with fail
              refine (k1 _).mono ?_
              rintro e v4 ⟨rfl, rfl⟩
              go_wp2_with fail
              refine (ky _).mono ?_
              rintro e v5 ⟨rfl, rfl⟩
              go_wp2_with fail
              refine (k2 _).mono ?_
              rintro e v6 ⟨rfl, rfl⟩
              go_wp2_with fail
              go_meet
              exact ⟨rfl, Q3⟩
          · have ec : CY = false := by rw [HCY.out]; exact decide_eq_false (fun h => by omega)
            have t2 : decide (-1123942400 < srung32 y) = false := decide_eq_false (by omega)
            subst ec
            clear h1 h2 hx hy HCA HCY HX
            generalize srung32 y = SY at *
            go_wp2_with fail
            refine (fy _).mono ?_
            rintro e v2 ⟨rfl, rfl⟩
            go_wp2_with fail
            refine (ky _).mono ?_
            rintro e v3 ⟨rfl, rfl⟩
            go_wp2_with fail
            refine (k1 _).mono ?_
            rintro e v4 ⟨rfl, rfl⟩
            go_wp2_with fail
            go_meet
            exact ⟨rfl, Q3⟩
        · rw [decide_eq_false h1] at fy
          have ec : CY = false := by rw [HCY.out]; exact decide_eq_false (fun h => h1 h.1)
          subst ec
          clear h1 hx hy HCA HCY HX
          go_wp2_with fail
          refine (fy _).mono ?_
          rintro e v2 ⟨rfl, rfl⟩
          go_wp2_with fail
          go_meet
          exact ⟨rfl, Q3⟩
      case rest =>
        obtain ⟨rfl, Q4⟩ := hcut
        clear Q3
        go_upto_if 67 with fail
        go_cut [9] from 68 to 91 (fun s9 wx => Hid (Q w wx))
        case first =>
          cases hc : CY
          · subst hc
            clear hx hy
            go_wp2_with fail
            go_meet
            exact Q4
          · have h2 : rung32 y < 2139095040 ∧ -1123942400 < srung32 y ∧ srung32 y < 1124073472 := of_decide_eq_true (HCY.out.symm.trans hc)
            subst hc
            obtain ⟨h1, h2, h3⟩ := h2
            have ay := and_7f y (by omega) (by omega)
            obtain ⟨b, e1, b1, b2, b3, b4, b5⟩ := log_exp hy h3 h2
            have HO : Hid ((sampleZ y - sampleZ b).natAbs ≤ zm 1 (-24)) := off_small b4
            clear b3 b4
            have c1 := fun w => exp_any y hy w
            have c2 := fun w => log_any _ (expW_lt y) w
            rw [e1] at c2
            have c3 := fun w => fin7_any b b1 w
            rw [decide_eq_true b2] at c3
            have c4 := fun w => off_any y b hy b1 h1 b2 w
            have c5 := fun w => power_any (-24) (by decide) (by decide) w
            have H5 : Hid (1065353216 ≤ rung32 y → b = y) := b5
            generalize expW y = X at *
            clear e1 b5 h1 h2 h3 HCA HX hx b2 ky k1 k2 fx fy
            generalize (sampleZ y - sampleZ b).natAbs = ZO at *
            generalize zm 1 (-24) = ZP at *
            by_cases g : 1065353216 ≤ rung32 y
            · have hby := H5.out g
              subst hby
              have t1 : (1065353216 : Int) ≤ (b : Int) % 2147483648 := by unfold rung32 at g; omega
              clear H5 g hy b1
              generalize (b : Int) % 2147483648 = M at *
              go_wp2_with fail
              refine (c1 _).mono ?_
              rintro e v2 ⟨rfl, q2⟩
              go_wp2_with fail
              refine (c2 _).mono ?_
              rintro e v3 ⟨rfl, q3⟩
              go_wp2_with fail
              refine (c3 _).mono ?_
              rintro e v4 ⟨rfl, rfl⟩
              go_wp2_with fail
              refine (c4 _).mono ?_
              rintro e v5 ⟨va, rfl, ha, q5⟩
              go_wp2_with fail
              refine (c5 _).mono ?_
              rintro e v6 ⟨vb, rfl, hb, q6⟩
              go_wp2_with fail
              refine (within_sz (ha.next q6) hb).mono ?_
              rintro e v7 ⟨rfl, q7⟩
              rw [decide_eq_true HO.out]
              have Q5 : Hid (Q w v7) := ((((Q4.out.trans q2).trans q3).trans q5).trans q6).trans q7
              clear ha hb
              go_wp2_with fail
              go_meet
              exact Q5
            · have t1 : decide ((1065353216 : Int) ≤ (y : Int) % 2147483648) = false := decide_eq_false (by unfold rung32 at g; omega)
              clear H5 g hy b1
              generalize (y : Int) % 2147483648 = M at *
              go_wp2_with fail
              refine (c1 _).mono ?_
              rintro e v2 ⟨rfl, q2⟩
              go_wp2_with fail
              refine (c2 _).mono ?_
              rintro e v3 ⟨rfl, q3⟩
              go_wp2_with fail
              refine (c3 _).mono ?_
              rintro e v4 ⟨rfl, rfl⟩
              go_wp2_with fail
              refine (c4 _).mono ?_
              rintro e v5 ⟨va, rfl, ha, q5⟩
              go_wp2_with fail
              refine (c5 _).mono ?_
              rintro e v6 ⟨vb, rfl, hb, q6⟩
              go_wp2_with fail
              refine (within_sz (ha.next q6) hb).mono ?_
              rintro e v7 ⟨rfl, q7⟩
              rw [decide_eq_true HO.out]
              have Q5 : Hid (Q w v7) := ((((Q4.out.trans q2).trans q3).trans q5).trans q6).trans q7
              clear ha hb
              go_wp2_with fail
              go_meet
              exact Q5
        case rest =>
          have Q5 := hcut
          clear hcut Q4
          obtain ⟨r, k, r1, r2, r3, k1', k2', k3, k4⟩ := tmod_bd a2
          obtain ⟨X, hX, x0, x1, hl, he⟩ := log_power (k := k - 126) (by omega) (by omega)
          have c1 := fun w => log_any X (by omega) w
          have c2 := fun w => rint_any (k - 126) (by omega) (by omega) w
          have c3 := fun w => exp_any (logV X) (logV_lt X) w
          rw [he] at c3
          rw [← hl] at c2
          have eX : (k - 126 + 127) * 8388608 = (X : Int) := hX.symm
          generalize logV X = V at *
          clear hx hy fx fy ky k1 k2 HCA HCY HX w2 hX he hl x0 x1
          go_wp2_with fail
          refine (c1 _).mono ?_
          rintro e v2 ⟨rfl, q2⟩
          go_wp2_with fail
          refine (c2 _).mono ?_
          rintro e v3 ⟨rfl, q3⟩
          go_wp2_with fail
          refine (c2 _).mono ?_
          rintro e v4 ⟨rfl, q4⟩
          go_wp2_with fail
          refine (c3 _).mono ?_
          rintro e v5 ⟨rfl, q5⟩
          go_wp2_with fail
          go_ret
          exact ⟨rfl, ((((Q5.out.trans q2).trans q3).trans q4).trans q5).grown⟩

set_option maxRecDepth 100000 in
theorem spaceLogBack_lifted (os : Os) (started : os.Started) (H : Type) (enc : TypeId × Value → H) :
    ReturnsInHanded {} Try.checked os 3 .any (Rows.spaceLogBackSpec.pre6 enc Try.prog Try.f3 Rows.spaceLogBackRow.domain false) (Rows.spaceLogBackSpec.post enc Try.prog Try.f3 false true false false) := by
  refine returnsInHanded_of_change (C := Try.checked) spaceLogBack_own started (by kernel_rfl) Try.func3
    (ChangeSpec.witness6 (enc := enc) (C := Try.checked) false ⟨#[], #[.int .u32 0, .int .u32 0, .int .i64 0], []⟩ 8 (by kernel_rfl) (by kernel_rfl) (by kernel_rfl) (by kernel_rfl)) ?_
  intro W base args ds gs before hval0 hW hcnd _
  have hval : ∀ (j : Nat) t v, Try.f3.params[j]? = some t → args[j]? = some v → Value.okWide Try.prog W .any base t v := hval0
  have hW' := hW
  obtain ⟨p, q, hA0, hV, rfl, hfz, hnd⟩ := hW
  have hA : DataW.TrodAll enc Try.prog W 0 (fun _ => true) true Try.f3.params.toList args.toList ds p := hA0
  rw [Try.params3] at hA hval
  obtain ⟨v0, vs0, d0, ds0, p0, q0, hargs, rfl, rfl, h0, r0⟩ := trodAll_cons hA
  obtain ⟨v1, vs1, d1, ds1, p1, q1, rfl, rfl, rfl, h1, r1⟩ := trodAll_cons r0
  obtain ⟨v2, vs2, d2, ds2, p2, q2, rfl, rfl, rfl, h2, r2⟩ := trodAll_cons r1
  obtain ⟨rfl, rfl, rfl⟩ := trodAll_nil r2
  obtain rfl : args = #[v0, v1, v2] := by cases args; simp_all
  obtain ⟨rfl, rfl⟩ := trodVars_none hV
  obtain ⟨a0, rfl, rfl, rfl, w0⟩ := open_int Try.underlying22 (hval 0 22 v0 rfl rfl) h0
  obtain ⟨a1, rfl, rfl, rfl, w1⟩ := open_int Try.underlying22 (hval 1 22 v1 rfl rfl) h1
  obtain ⟨a2, rfl, rfl, rfl, w2⟩ := open_int Try.underlying3 (hval 2 3 v2 rfl rfl) h2
  clear hA0 hval0
  simp only [List.append_nil] at hW'
  refine (spaceLogBack_walk a0 a1 a2 w0 w1 w2 W).mono fun e W' ⟨he, hg⟩ => ?_
  subst he
  exact ⟨_, rfl, post_of_same (pa := []) (pv := []) hW' (fun _ _ _ => (trodAll_cons_mk (shut_bool Try.underlying4 _) trodAll_mk0)) (fun sp _ => (trodAll_cons_mk (shut_int Try.underlying22 w0) (trodAll_cons_mk (shut_int Try.underlying22 w1) (trodAll_cons_mk (shut_int Try.underlying3 w2) trodAll_mk0)))) (fun _ _ => rfl) rfl
    (hg.frame _) hg.2.1 (ok_one (by kernel_rfl) rfl (okWide_bool_mk Try.underlying4 _))⟩

theorem spaceLogBack_over : Rows.spaceLogBackRow.holds Try.pinned (OpenSpec.ofChange Rows.spaceLogBackSpec) :=
  OpenClaim.holds_of_wide 3 Try.f3 rfl rfl rfl rfl rfl rfl rfl ⟨rfl, rfl, rfl, rfl, rfl⟩ rfl rfl rfl rfl rfl (by kernel_rfl) Try.func3 (by kernel_rfl)
    (of_decide_eq_true (by kernel_rfl)) (by unfold Func.isWrapper; first | (rw [if_pos (by decide +kernel)]; kernel_rfl) | (rw [if_neg (by decide +kernel)]; exact ⟨rfl, rfl⟩))
    (fun os started H enc _ => spaceLogBack_lifted os started H enc)

theorem spaceLogBack_holds : Rows.SpaceLogBackSaid :=
  spaceLogBack_over
#print axioms spaceLogBack_holds
end Go.Proofs.Ytedafbbpcpebbab
