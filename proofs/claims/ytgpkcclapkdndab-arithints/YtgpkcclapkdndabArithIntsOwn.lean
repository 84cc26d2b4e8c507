/- Whole numbers to 2^24 in size come back from samples; of every sample the nearest whole number is the floor or one more, or a number is out of range; no condition. -/
import Derived.Test.YtgpkcclapkdndabRows
import Derived.WalkKit
import Derived.ProofKit
import Derived.OpenShut
import Derived.Test.YtgpkcclapkdndabKnown
import Derived.Test.YtgpkcclapkdndabWholeL
namespace Go.Proofs.Ytgpkcclapkdndab
open Go.ChangeShapes Go.WideShapes Go.ChangeAt Go.RowKit
set_option linter.unusedVariables false

theorem arithInts_own : ownKnob Try.prog.godebug = none := by kernel_rfl

/-- A whole number of at most 24 digits is a sample as it is. -/
theorem int_sample {n : Int} (h : n.natAbs ≤ 16777216) {way : Ieee.Toward} (hw : way = .down ∨ way = .even) :
    floI way (Ieee.single.write (.number (decide (n < 0)) n.natAbs 0)) = n ∧ floE way (Ieee.single.write (.number (decide (n < 0)) n.natAbs 0)) = 0 := by
  obtain ⟨s, hs⟩ : ∃ s, s = decide (n < 0) := ⟨_, rfl⟩
  obtain ⟨M, hM⟩ : ∃ M, M = n.natAbs := ⟨_, rfl⟩
  rw [← hs, ← hM]
  rw [← hM] at h
  have e0 : Ieee.single.write (.number s M 0) = Ieee.single.word s (rungOf Ieee.single (M * 2 ^ 149) (-149)) := by
    show Ieee.single.nearest s M 0 = _
    rw [nearest_rung, rung_scale]; rfl
  have hl : (M * 2 ^ 149).log2 ≤ 270 := by
    by_cases h0 : M = 0
    · subst h0; decide
    · rw [log2_mul_pow h0]
      have := (Nat.log2_lt h0).2 (show M < 2 ^ 25 by omega)
      omega
  obtain ⟨r, hr⟩ : ∃ r, r = rungOf Ieee.single (M * 2 ^ 149) (-149) := ⟨_, rfl⟩
  have hv : val32 r = M * 2 ^ 149 := by
    rw [hr]
    by_cases h1 : M = 16777216
    · exact vN_exact32 (g := 150) hl (by rw [h1]; exact ⟨8388608, by decide⟩) (by rw [h1]; decide)
    · refine vN_exact32 (g := 149) hl (Nat.dvd_mul_left _ _) ?_
      rw [Nat.pow_add]
      exact Nat.mul_lt_mul_of_pos_right (by omega) (Nat.two_pow_pos _)
  have hb : r < 2139095040 := by
    rw [hr, rung32_eq hl]
    have := (kept_bd32 (M := M * 2 ^ 149)).1
    have : lostK32 (M * 2 ^ 149) ≤ 247 := by unfold lostK32; omega
    omega
  rw [e0, ← hr]
  obtain ⟨a1, a2⟩ := sgn_word32 s (r := r) (by omega)
  obtain ⟨V, v1, v2, v3⟩ := flo_fin hw (a := Ieee.single.word s r) (by rw [a2]; exact hb)
  rw [a1, a2] at v1
  have hN : wholeN way s (mag32 r) (-149 + (plc32 r : Int)) = M := by
    unfold val32 at hv
    rcases Nat.le_total (plc32 r) 149 with g | g
    · have e1 : mag32 r = M * 2 ^ (149 - plc32 r) := by
        have : mag32 r * 2 ^ plc32 r = M * 2 ^ (149 - plc32 r) * 2 ^ plc32 r := by
          rw [hv, Nat.mul_assoc, ← Nat.pow_add, show 149 - plc32 r + plc32 r = 149 by omega]
        exact Nat.eq_of_mul_eq_mul_right (Nat.two_pow_pos _) this
      have := wholeN_scale hw s M (149 - plc32 r) 0
      rw [← e1, show (0 : Int) - ((149 - plc32 r : Nat) : Int) = -149 + (plc32 r : Int) by omega] at this
      rw [this]
      unfold wholeN
      rw [show ((0 : Int)).toNat = 0 from rfl, show (-(0 : Int)).toNat = 0 from rfl, cut_0 hw, Nat.shiftLeft_zero]
    · have e1 : M = mag32 r * 2 ^ (plc32 r - 149) := by
        have : M * 2 ^ 149 = mag32 r * 2 ^ (plc32 r - 149) * 2 ^ 149 := by
          rw [← hv, Nat.mul_assoc, ← Nat.pow_add, show plc32 r - 149 + 149 = plc32 r by omega]
        exact Nat.eq_of_mul_eq_mul_right (Nat.two_pow_pos _) this
      unfold wholeN
      rw [show (-(-149 + (plc32 r : Int))).toNat = 0 by omega, cut_0 hw, Nat.shiftLeft_eq, show (-149 + (plc32 r : Int)).toNat = plc32 r - 149 by omega, ← e1]
  have eV : V = n := by
    rw [v1, hN]
    unfold Ieee.signed
    rw [Nat.shiftLeft_zero, hs, hM]
    by_cases k : n < 0
    · rw [decide_eq_true k, if_pos rfl]; omega
    · rw [decide_eq_false k, if_neg (by decide)]; omega
  rw [v2, v3, eV, if_pos (by omega), if_pos (by omega)]
  exact ⟨rfl, rfl⟩
theorem rne_two (n d : Nat) : rne n d = n / 2 ^ d ∨ (rne n d = n / 2 ^ d + 1 ∧ n % 2 ^ d ≠ 0) := by
  have hp := Nat.two_pow_pos d
  unfold rne
  by_cases h : goesUp n d
  · rw [if_pos h]
    right
    refine ⟨rfl, ?_⟩
    unfold goesUp at h
    omega
  · rw [if_neg h]; left; rfl
/-- Floor and nearest of one sample. -/
theorem flo_two (a : Nat) : (floE .even a = 20 ∧ floI .even a = 0 ∧ (floE .down a = 0 ∨ floE .down a = 20)) ∨ (floE .even a = 0 ∧ floE .down a = 20 ∧ floI .down a = 0) ∨ (floE .even a = 0 ∧ floE .down a = 0 ∧ (floI .even a = floI .down a ∨ (floI .even a = floI .down a + 1 ∧ -9223372036854775808 ≤ floI .down a ∧ floI .down a < 9223372036854775807))) := by
  cases h : nanN a
  · rcases cases32 h with g | g
    · obtain ⟨V, v1, v2, v3⟩ := flo_fin (Or.inr rfl : Ieee.Toward.even = .down ∨ Ieee.Toward.even = .even) g
      obtain ⟨U, u1, u2, u3⟩ := flo_fin (Or.inl rfl : Ieee.Toward.down = .down ∨ Ieee.Toward.down = .even) g
      have hVU : V = U ∨ V = U + 1 := by
        rw [v1, u1]
        unfold wholeN
        rw [cut_rne, cut_down]
        generalize mag32 (rung32 a) <<< (-149 + (plc32 (rung32 a) : Int)).toNat = n
        generalize (-(-149 + (plc32 (rung32 a) : Int))).toNat = d
        have h2 := rne_two n d
        unfold Ieee.signed
        rw [Nat.shiftLeft_zero, Nat.shiftLeft_zero]
        generalize rne n d = c at h2
        generalize n / 2 ^ d = q at h2
        by_cases h0 : n % 2 ^ d = 0
        · rw [decide_eq_false (by omega), Bool.and_false]
          left
          rw [show c = q by omega]; rfl
        · rw [decide_eq_true h0, Bool.and_true]
          cases sgn32 a
          · simp only [Bool.false_eq_true, if_false, Bool.toNat_false]
            omega
          · simp only [if_true, Bool.toNat_true]
            omega
      rw [v2, v3, u2, u3]
      by_cases k1 : -9223372036854775808 ≤ V ∧ V < 9223372036854775808
      · rw [if_pos k1, if_pos k1]
        by_cases k2 : -9223372036854775808 ≤ U ∧ U < 9223372036854775808
        · rw [if_pos k2, if_pos k2]; exact Or.inr (Or.inr ⟨rfl, rfl, by omega⟩)
        · rw [if_neg k2, if_neg k2]; exact Or.inr (Or.inl ⟨rfl, rfl, rfl⟩)
      · rw [if_neg k1, if_neg k1]
        refine Or.inl ⟨rfl, rfl, ?_⟩
        split
        · exact Or.inl rfl
        · exact Or.inr rfl
    · obtain ⟨e1, e2⟩ := flo_inf (way := .even) g
      obtain ⟨f1, f2⟩ := flo_inf (way := .down) g
      exact Or.inl ⟨e2, e1, Or.inr f2⟩
  · obtain ⟨e1, e2⟩ := flo_nan (way := .even) h
    obtain ⟨f1, f2⟩ := flo_nan (way := .down) h
    exact Or.inl ⟨e2, e1, Or.inr f2⟩
set_option maxHeartbeats 4000000 in
theorem arithInts_walk (a0 : Int) (a1 : Int) (w0 : (Lit.int .i64 a0).wf = true) (w1 : (Lit.int .u32 a1).wf = true) (w : World) :
    Calls Try.prog 8 #[.int .i64 a0, .int .u32 a1] w fun e w' => e = .returned (.bool true) ∧ Grown w w' := by
  obtain ⟨x0, x1⟩ := bounds_i64 w0
  obtain ⟨y0, y1⟩ := bounds_u32 w1
  obtain ⟨a, rfl⟩ := Int.eq_ofNat_of_zero_le y0
  have c1 := fun w => cint_any a0 w
  have hx : Hid (a0.natAbs ≤ 16777216 → ∀ way : Ieee.Toward, (way = .down ∨ way = .even) → floI way (Ieee.single.write (.number (decide (a0 < 0)) a0.natAbs 0)) = a0 ∧ floE way (Ieee.single.write (.number (decide (a0 < 0)) a0.natAbs 0)) = 0) := fun h way hw => int_sample h hw
  generalize Ieee.single.write (.number (decide (a0 < 0)) a0.natAbs 0) = x at c1 hx
  have c4 := fun w => cnear_any a w
  have c5 := fun w => cfloor_any a w
  have hT : Hid _ := flo_two a
  generalize floI .even a = y at c4 hT
  generalize floE .even a = e at c4 hT
  generalize floI .down a = z at c5 hT
  generalize floE .down a = f at c5 hT
  have hN : Hid ((a0 < -16777216) ∨ (16777216 < a0) ∨ (-16777216 ≤ a0 ∧ a0 ≤ 16777216)) := by
    have : (a0 < -16777216) ∨ (16777216 < a0) ∨ (-16777216 ≤ a0 ∧ a0 ≤ 16777216) := by omega
    exact this
  have qq := Q.refl w
  rcases hN.out with n1 | n1 | ⟨n1, n2⟩
  · clear hN hx
    go_enter Try.func8, Try.ntmps8
    go_wp2_with fail
    refine (known_any _).mono ?_
    rintro r v1 ⟨rfl, q⟩
    have qq := qq.trans q
    clear q
    go_wp2_with fail
    refine (c1 _).mono ?_
    rintro r v2 ⟨rfl, q⟩
    have qq := qq.trans q
    clear q
    go_wp2_with fail
    refine (c4 _).mono ?_
    rintro r v2 ⟨rfl, q⟩
    have qq := qq.trans q
    clear q
    go_wp2_with fail
    refine (c5 _).mono ?_
    rintro r v2 ⟨rfl, q⟩
    have qq := qq.trans q
    clear q
    rcases hT.out with ⟨rfl, rfl, rfl | rfl⟩ | ⟨rfl, rfl, rfl⟩ | ⟨rfl, rfl, rfl | ⟨rfl, z0, z1⟩⟩
    · clear hT
      go_wp2_with fail
      go_ret
      exact ⟨rfl, qq.grown⟩
    · clear hT
      go_wp2_with fail
      go_ret
      exact ⟨rfl, qq.grown⟩
    · clear hT
      by_cases y0 : y = 0
      · subst y0
        go_wp2_with fail
        go_ret
        exact ⟨rfl, qq.grown⟩
      · have y1 : (y == 0) = false := beq_eq_false_iff_ne.2 y0
        clear y0
        go_wp2_with fail
        go_ret
        exact ⟨rfl, qq.grown⟩
    · clear hT
      go_wp2_with fail
      go_ret
      exact ⟨rfl, qq.grown⟩
    · have z2 : (z + 1 == z) = false := beq_eq_false_iff_ne.2 (by omega)
      clear hT
      go_wp2_with fail
      go_ret
      exact ⟨rfl, qq.grown⟩
  · clear hN hx
    go_enter Try.func8, Try.ntmps8
    go_wp2_with fail
    refine (known_any _).mono ?_
    rintro r v1 ⟨rfl, q⟩
    have qq := qq.trans q
    clear q
    go_wp2_with fail
    refine (c1 _).mono ?_
    rintro r v2 ⟨rfl, q⟩
    have qq := qq.trans q
    clear q
    go_wp2_with fail
    refine (c4 _).mono ?_
    rintro r v2 ⟨rfl, q⟩
    have qq := qq.trans q
    clear q
    go_wp2_with fail
    refine (c5 _).mono ?_
    rintro r v2 ⟨rfl, q⟩
    have qq := qq.trans q
    clear q
    rcases hT.out with ⟨rfl, rfl, rfl | rfl⟩ | ⟨rfl, rfl, rfl⟩ | ⟨rfl, rfl, rfl | ⟨rfl, z0, z1⟩⟩
    · clear hT
      go_wp2_with fail
      go_ret
      exact ⟨rfl, qq.grown⟩
    · clear hT
      go_wp2_with fail
      go_ret
      exact ⟨rfl, qq.grown⟩
    · clear hT
      by_cases y0 : y = 0
      · subst y0
        go_wp2_with fail
        go_ret
        exact ⟨rfl, qq.grown⟩
      · have y1 : (y == 0) = false := beq_eq_false_iff_ne.2 y0
        clear y0
        go_wp2_with fail
        go_ret
        exact ⟨rfl, qq.grown⟩
    · clear hT
      go_wp2_with fail
      go_ret
      exact ⟨rfl, qq.grown⟩
    · have z2 : (z + 1 == z) = false := beq_eq_false_iff_ne.2 (by omega)
      clear hT
      go_wp2_with fail
      go_ret
      exact ⟨rfl, qq.grown⟩
  · have hx := hx.out (by omega)
    obtain ⟨k1, k2⟩ := hx .even (Or.inr rfl)
    obtain ⟨k3, k4⟩ := hx .down (Or.inl rfl)
    have c2 := fun w => cnear_any x w
    have c3 := fun w => cfloor_any x w
    rw [k1, k2] at c2
    rw [k3, k4] at c3
    clear hN hx k1 k2 k3 k4
    go_enter Try.func8, Try.ntmps8
    go_wp2_with fail
    refine (known_any _).mono ?_
    rintro r v1 ⟨rfl, q⟩
    have qq := qq.trans q
    clear q
    go_wp2_with fail
    refine (c1 _).mono ?_
    rintro r v2 ⟨rfl, q⟩
    have qq := qq.trans q
    clear q
    go_wp2_with fail
    refine (c2 _).mono ?_
    rintro r v2 ⟨rfl, q⟩
    have qq := qq.trans q
    clear q
    go_wp2_with fail
    refine (c3 _).mono ?_
    rintro r v2 ⟨rfl, q⟩
    have qq := qq.trans q
    clear q
    go_wp2_with fail
    refine (c4 _).mono ?_
    rintro r v2 ⟨rfl, q⟩
    have qq := qq.trans q
    clear q
    go_wp2_with fail
    refine (c5 _).mono ?_
    rintro r v2 ⟨rfl, q⟩
    have qq := qq.trans q
    clear q
    rcases hT.out with ⟨rfl, rfl, rfl | rfl⟩ | ⟨rfl, rfl, rfl⟩ | ⟨rfl, rfl, rfl | ⟨rfl, z0, z1⟩⟩
    · clear hT
      go_wp2_with fail
      go_ret
      exact ⟨rfl, qq.grown⟩
    · clear hT
      go_wp2_with fail
      go_ret
      exact ⟨rfl, qq.grown⟩
    · clear hT
      by_cases y0 : y = 0
      · subst y0
        go_wp2_with fail
        go_ret
        exact ⟨rfl, qq.grown⟩
      · have y1 : (y == 0) = false := beq_eq_false_iff_ne.2 y0
        clear y0
        go_wp2_with fail
        go_ret
        exact ⟨rfl, qq.grown⟩
    · clear hT
      go_wp2_with fail
      go_ret
      exact ⟨rfl, qq.grown⟩
    · have z2 : (z + 1 == z) = false := beq_eq_false_iff_ne.2 (by omega)
      clear hT
      go_wp2_with fail
      go_ret
      exact ⟨rfl, qq.grown⟩

set_option maxRecDepth 100000 in
theorem arithInts_lifted (os : Os) (started : os.Started) (H : Type) (enc : TypeId × Value → H) :
    ReturnsInHanded {} Try.checked os 8 .any (Rows.arithIntsSpec.pre6 enc Try.prog Try.f8 Rows.arithIntsRow.domain false) (Rows.arithIntsSpec.post enc Try.prog Try.f8 false true false false) := by
  refine returnsInHanded_of_change (C := Try.checked) arithInts_own started (by kernel_rfl) Try.func8
    (ChangeSpec.witness6 (enc := enc) (C := Try.checked) false ⟨#[], #[.int .i64 0, .int .u32 0], []⟩ 8 (by kernel_rfl) (by kernel_rfl) (by kernel_rfl) (by kernel_rfl)) ?_
  intro W base args ds gs before hval0 hW hcnd _
  have hval : ∀ (j : Nat) t v, Try.f8.params[j]? = some t → args[j]? = some v → Value.okWide Try.prog W .any base t v := hval0
  have hW' := hW
  obtain ⟨p, q, hA0, hV, rfl, hfz, hnd⟩ := hW
  have hA : DataW.TrodAll enc Try.prog W 0 (fun _ => true) true Try.f8.params.toList args.toList ds p := hA0
  rw [Try.params8] at hA hval
  obtain ⟨v0, vs0, d0, ds0, p0, q0, hargs, rfl, rfl, h0, r0⟩ := trodAll_cons hA
  obtain ⟨v1, vs1, d1, ds1, p1, q1, rfl, rfl, rfl, h1, r1⟩ := trodAll_cons r0
  obtain ⟨rfl, rfl, rfl⟩ := trodAll_nil r1
  obtain rfl : args = #[v0, v1] := by cases args; simp_all
  obtain ⟨rfl, rfl⟩ := trodVars_none hV
  obtain ⟨a0, rfl, rfl, rfl, w0⟩ := open_int Try.underlying2 (hval 0 2 v0 rfl rfl) h0
  obtain ⟨a1, rfl, rfl, rfl, w1⟩ := open_int Try.underlying22 (hval 1 22 v1 rfl rfl) h1
  clear hA0 hval0
  simp only [List.append_nil] at hW'
  refine (arithInts_walk a0 a1 w0 w1 W).mono fun e W' ⟨he, hg⟩ => ?_
  subst he
  exact ⟨_, rfl, post_of_same (pa := []) (pv := []) hW' (fun _ _ _ => (trodAll_cons_mk (shut_bool Try.underlying4 _) trodAll_mk0)) (fun sp _ => (trodAll_cons_mk (shut_int Try.underlying2 w0) (trodAll_cons_mk (shut_int Try.underlying22 w1) trodAll_mk0))) (fun _ _ => rfl) rfl
    (hg.frame _) hg.2.1 (ok_one (by kernel_rfl) rfl (okWide_bool_mk Try.underlying4 _))⟩

theorem arithInts_over : Rows.arithIntsRow.holds Try.pinned (OpenSpec.ofChange Rows.arithIntsSpec) :=
  OpenClaim.holds_of_wide 8 Try.f8 rfl rfl rfl rfl rfl rfl rfl ⟨rfl, rfl, rfl, rfl, rfl⟩ rfl rfl rfl rfl rfl (by kernel_rfl) Try.func8 (by kernel_rfl)
    (of_decide_eq_true (by kernel_rfl)) (by unfold Func.isWrapper; first | (rw [if_pos (by decide +kernel)]; kernel_rfl) | (rw [if_neg (by decide +kernel)]; exact ⟨rfl, rfl⟩))
    (fun os started H enc _ => arithInts_lifted os started H enc)

theorem arithInts_holds : Rows.ArithIntsSaid :=
  arithInts_over
#print axioms arithInts_holds
end Go.Proofs.Ytgpkcclapkdndab
