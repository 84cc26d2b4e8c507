/- Of every two samples the program's keys go there and back, its order is that of the values, and its neighbours are neighbours; no condition. -/
import Derived.Test.YtemfgmnindikfaaRows
import Derived.WalkKit
import Derived.ProofKit
import Derived.OpenShut
import Derived.WalkLawsBesides
import Derived.Test.YtemfgmnindikfaaKnown
import Derived.Test.YtemfgmnindikfaaOrder
namespace Go.Proofs.Ytemfgmnindikfaa
open Go.ChangeShapes Go.WideShapes Go.ChangeAt Go.RowKit
set_option linter.unusedVariables false

theorem bitsOrder_own : ownKnob Try.prog.godebug = none := by kernel_rfl

theorem next_back {a : Int} (h0 : 0 ≤ a) (h1 : a ≤ 4294967295) (h : nextB a = true) : prevB (nextV a) = true ∧ prevV (nextV a) = a ∧ keyV (nextV a) - keyV a = 1 := by
  have hk := keyV_bd h0 h1
  have hn : ¬ keyV a = 4294967295 := by unfold nextB at h; simpa using h
  have e : keyV (nextV a) = keyV a + 1 := by unfold nextV; rw [if_neg hn]; exact key_fkey (by omega) (by omega)
  refine ⟨?_, ?_, by omega⟩
  · unfold prevB; rw [e]; simp; omega
  · unfold prevV; rw [e, if_neg (by omega), show keyV a + 1 - 1 = keyV a by omega]; exact fkey_key h0 h1
theorem nextV_bd {a : Int} (h0 : 0 ≤ a) (h1 : a ≤ 4294967295) : 0 ≤ nextV a ∧ nextV a ≤ 4294967295 := by
  have hk := keyV_bd h0 h1
  unfold nextV
  split
  · omega
  · exact fkeyV_bd (by omega) (by omega)
/-- A sample's rung, its sign, its key. -/
theorem rung_of {a : Int} (h0 : 0 ≤ a) (h1 : a ≤ 4294967295) : (sgn a.toNat = true ∧ (rung a.toNat : Int) = a - 2147483648 ∧ keyV a = 2147483647 - rung a.toNat) ∨ (sgn a.toNat = false ∧ (rung a.toNat : Int) = a ∧ keyV a = 2147483648 + rung a.toNat) := by
  by_cases h : a < 2147483648
  · right
    refine ⟨?_, ?_, ?_⟩
    · unfold sgn; rw [beq_eq_false_iff_ne]; omega
    · unfold rung; omega
    · rw [keyV_lo h]; unfold rung; omega
  · left
    refine ⟨?_, ?_, ?_⟩
    · unfold sgn; rw [beq_iff_eq]; omega
    · unfold rung; omega
    · rw [keyV_hi (by omega)]; unfold rung; omega
theorem nan_rung {a : Int} (h0 : 0 ≤ a) (h1 : a ≤ 4294967295) : nanB a = true ↔ 2139095040 < rung a.toNat := by
  unfold nanB classV
  have e1 : rung a.toNat = (expV a * 8388608 + fracV a).toNat := by unfold rung expV fracV; omega
  have b1 := expV_bd a
  have b2 := fracV_bd a
  rw [e1]
  generalize expV a = x at *
  generalize fracV a = f at *
  by_cases c1 : x = 255
  · subst c1
    by_cases c2 : f = 0
    · subst c2; simp
    · simp [c2]; omega
  · by_cases c2 : x = 0
    · subst c2
      by_cases c3 : f = 0
      · subst c3; simp
      · simp [c3]; omega
    · simp [c1, c2]; omega
theorem zero_rung {a : Int} (h0 : 0 ≤ a) (h1 : a ≤ 4294967295) (h : rung a.toNat = 0) : classV a = 5 := by
  have e1 : rung a.toNat = (expV a * 8388608 + fracV a).toNat := by unfold rung expV fracV; omega
  have b1 := expV_bd a
  have b2 := fracV_bd a
  exact classV_5 (by omega) (by omega)
theorem f32from (n : Int) (w : World) : (callFunc 40 #[.int .u32 n]).run Try.prog w = .ok (.value (.float .f32 n.toNat)) w := by
  rw [run_callFunc_extern (e := Extern.MathFloatBits.float32frombits) Try.func40 (by kernel_rfl) (by kernel_rfl) (by kernel_rfl) (by kernel_rfl)]
  rfl
theorem ord_self {a : Int} (h0 : 0 ≤ a) (h1 : a ≤ 4294967295) : (FloatKind.f32.format.order a.toNat a.toNat != some Ordering.eq) = nanB a := by
  show (Ieee.single.order a.toNat a.toNat != some Ordering.eq) = nanB a
  cases h : nanB a
  · have : ¬ 2139095040 < rung a.toNat := fun g => by rw [(nan_rung h0 h1).2 g] at h; cases h
    rw [order_num (by omega) (by omega), Int.compare_eq_eq.2 rfl]; rfl
  · rw [order_nan_left ((nan_rung h0 h1).1 h)]; rfl
theorem not_nan {a : Int} (h0 : 0 ≤ a) (h1 : a ≤ 4294967295) (h : nanB a = false) : rung a.toNat ≤ 2139095040 := by
  have : ¬ 2139095040 < rung a.toNat := fun g => by rw [(nan_rung h0 h1).2 g] at h; cases h
  omega
theorem ord_two {a b : Int} (a0 : 0 ≤ a) (a1 : a ≤ 4294967295) (b0 : 0 ≤ b) (b1 : b ≤ 4294967295) (ha : nanB a = false) (hb : nanB b = false) : FloatKind.f32.format.order a.toNat b.toNat = some (compare (srung a.toNat) (srung b.toNat)) :=
  order_num (not_nan a0 a1 ha) (not_nan b0 b1 hb)
theorem srung_lt {a b : Int} (a0 : 0 ≤ a) (a1 : a ≤ 4294967295) (b0 : 0 ≤ b) (b1 : b ≤ 4294967295) (h : srung a.toNat < srung b.toNat) : befB a b = true := by
  rw [befB_t]
  unfold srung at h
  rcases rung_of a0 a1 with ⟨p1, p2, p3⟩ | ⟨p1, p2, p3⟩ <;> rcases rung_of b0 b1 with ⟨q1, q2, q3⟩ | ⟨q1, q2, q3⟩ <;> simp [p1, q1] at h <;> omega
theorem srung_eq {a b : Int} (a0 : 0 ≤ a) (a1 : a ≤ 4294967295) (b0 : 0 ≤ b) (b1 : b ≤ 4294967295) (h : srung a.toNat = srung b.toNat) (hn : a ≠ b) : classV a = 5 ∧ classV b = 5 := by
  unfold srung at h
  have : rung a.toNat = 0 ∧ rung b.toNat = 0 := by
    rcases rung_of a0 a1 with ⟨p1, p2, p3⟩ | ⟨p1, p2, p3⟩ <;> rcases rung_of b0 b1 with ⟨q1, q2, q3⟩ | ⟨q1, q2, q3⟩ <;> simp [p1, q1] at h <;> omega
  exact ⟨zero_rung a0 a1 this.1, zero_rung b0 b1 this.2⟩
set_option maxHeartbeats 1000000 in
theorem bitsOrder_walk (a0 : Int) (a1 : Int) (w0 : (Lit.int .u32 a0).wf = true) (w1 : (Lit.int .u32 a1).wf = true) (w : World) :
    Calls Try.prog 6 #[.int .u32 a0, .int .u32 a1] w fun e w' => e = .returned (.bool true) ∧ Grown w w' := by
  obtain ⟨x0, x1⟩ := bounds_u32 w0
  obtain ⟨y0, y1⟩ := bounds_u32 w1
  obtain ⟨k0, k1⟩ := keyV_bd x0 x1
  obtain ⟨f0, f1⟩ := fkeyV_bd x0 x1
  obtain ⟨n0, n1⟩ := nextV_bd x0 x1
  have e1 := fkey_key x0 x1
  have e2 := key_fkey x0 x1
  have hnb : Hid (nextB a0 = true → prevB (nextV a0) = true ∧ prevV (nextV a0) = a0 ∧ keyV (nextV a0) - keyV a0 = 1) := next_back x0 x1
  have g1 := ord_self x0 x1
  have g2 := ord_self y0 y1
  have hf32 := f32from
  have hway : Hid ((nanB a0 = true) ∨ (nanB a0 = false ∧ nanB a1 = true) ∨ (nanB a0 = false ∧ nanB a1 = false ∧ ((FloatKind.f32.format.order a0.toNat a1.toNat == some Ordering.lt) = true ∧ befB a0 a1 = true ∧ (FloatKind.f32.format.order a1.toNat a0.toNat == some Ordering.lt) = false ∧ (FloatKind.f32.format.order a0.toNat a1.toNat != some Ordering.eq) = true)) ∨ (nanB a0 = false ∧ nanB a1 = false ∧ ((FloatKind.f32.format.order a0.toNat a1.toNat == some Ordering.lt) = false ∧ befB a1 a0 = true ∧ (FloatKind.f32.format.order a1.toNat a0.toNat == some Ordering.lt) = true ∧ (FloatKind.f32.format.order a0.toNat a1.toNat != some Ordering.eq) = true)) ∨ (nanB a0 = false ∧ nanB a1 = false ∧ ((FloatKind.f32.format.order a0.toNat a1.toNat == some Ordering.lt) = false ∧ (FloatKind.f32.format.order a1.toNat a0.toNat == some Ordering.lt) = false ∧ (FloatKind.f32.format.order a0.toNat a1.toNat != some Ordering.eq) = false ∧ ((a0 == a1) = true ∨ (a0 == a1) = false ∧ (classV a0 == 5) = true ∧ (classV a1 == 5) = true)))) := by
    show _ ∨ _
    cases ha : nanB a0
    · cases hb : nanB a1
      · right; right
        rw [ord_two x0 x1 y0 y1 ha hb, ord_two y0 y1 x0 x1 hb ha]
        rcases Int.lt_trichotomy (srung a0.toNat) (srung a1.toNat) with h | h | h
        · left
          rw [Int.compare_eq_lt.2 h, Int.compare_eq_gt.2 h]
          exact ⟨rfl, rfl, rfl, srung_lt x0 x1 y0 y1 h, rfl, rfl⟩
        · right; right
          rw [Int.compare_eq_eq.2 h, Int.compare_eq_eq.2 h.symm]
          refine ⟨rfl, rfl, rfl, rfl, rfl, ?_⟩
          by_cases e : a0 = a1
          · left; simp [e]
          · right; obtain ⟨c1, c2⟩ := srung_eq x0 x1 y0 y1 h e; exact ⟨by simp [e], by simp [c1], by simp [c2]⟩
        · right; left
          rw [Int.compare_eq_gt.2 h, Int.compare_eq_lt.2 h]
          exact ⟨rfl, rfl, rfl, srung_lt y0 y1 x0 x1 h, rfl, rfl⟩
      · right; left; exact ⟨rfl, rfl⟩
    · left; rfl
  cases hb : nextB a0
  · go_enter Try.func6, Try.ntmps6
    go_wp2_with fail
    refine (known_any _).mono ?_
    rintro e v1 ⟨rfl, q1⟩
    go_wp2_with fail
    refine (key_any a0 x0 x1 _).mono ?_
    rintro e v2 ⟨rfl, rfl⟩
    go_wp2_with fail
    refine (fkey_any (keyV a0) k0 k1 _).mono ?_
    rintro e v2 ⟨rfl, rfl⟩
    go_wp2_with fail
    refine (fkey_any a0 x0 x1 _).mono ?_
    rintro e v2 ⟨rfl, rfl⟩
    go_wp2_with fail
    refine (key_any (fkeyV a0) f0 f1 _).mono ?_
    rintro e v2 ⟨rfl, rfl⟩
    go_wp2_with fail
    refine (next_any a0 x0 x1 _).mono ?_
    rintro e v2 ⟨rfl, rfl⟩
    go_wp2_with fail
    refine (prev_any (nextV a0) n0 n1 _).mono ?_
    rintro e v2 ⟨rfl, rfl⟩
    rcases hway.out with h | ⟨h, h'⟩ | ⟨h, h', p1, p2, p3, p4⟩ | ⟨h, h', p1, p2, p3, p4⟩ | ⟨h, h', p1, p3, p4, p5 | ⟨p5, p6, p7⟩⟩
    · clear hway
      go_wp2_with fail
      refine (isnan_any a0 x0 x1 _).mono ?_
      rintro e v3 ⟨rfl, q3⟩
      go_wp2_with fail
      refine (isnan_any a1 y0 y1 _).mono ?_
      rintro e v4 ⟨rfl, q4⟩
      go_wp2_with fail
      go_ret
      exact ⟨rfl, ((q1.trans q3).trans q4).grown⟩
    · clear hway
      go_wp2_with fail
      refine (isnan_any a0 x0 x1 _).mono ?_
      rintro e v3 ⟨rfl, q3⟩
      go_wp2_with fail
      refine (isnan_any a1 y0 y1 _).mono ?_
      rintro e v4 ⟨rfl, q4⟩
      go_wp2_with fail
      go_ret
      exact ⟨rfl, ((q1.trans q3).trans q4).grown⟩
    · clear hway
      go_wp2_with fail
      refine (before_any a0 a1 x0 x1 y0 y1 _).mono ?_
      rintro e v3 ⟨rfl, rfl⟩
      go_wp2_with fail
      go_ret
      exact ⟨rfl, q1.grown⟩
    · clear hway
      go_wp2_with fail
      refine (before_any a1 a0 y0 y1 x0 x1 _).mono ?_
      rintro e v3 ⟨rfl, rfl⟩
      go_wp2_with fail
      go_ret
      exact ⟨rfl, q1.grown⟩
    · clear hway
      go_wp2_with fail
      go_ret
      exact ⟨rfl, q1.grown⟩
    · clear hway
      go_wp2_with fail
      refine (class_any a0 x0 x1 _).mono ?_
      rintro e v3 ⟨rfl, q3⟩
      go_wp2_with fail
      refine (class_any a1 y0 y1 _).mono ?_
      rintro e v4 ⟨rfl, q4⟩
      go_wp2_with fail
      go_ret
      exact ⟨rfl, ((q1.trans q3).trans q4).grown⟩
  · obtain ⟨r1, r2, r3⟩ := hnb.out hb
    clear hnb
    have r4 : (keyV (nextV a0) - keyV a0 != 1) = false := by rw [r3]; rfl
    clear r3
    go_enter Try.func6, Try.ntmps6
    go_wp2_with fail
    refine (known_any _).mono ?_
    rintro e v1 ⟨rfl, q1⟩
    go_wp2_with fail
    refine (key_any a0 x0 x1 _).mono ?_
    rintro e v2 ⟨rfl, rfl⟩
    go_wp2_with fail
    refine (fkey_any (keyV a0) k0 k1 _).mono ?_
    rintro e v2 ⟨rfl, rfl⟩
    go_wp2_with fail
    refine (fkey_any a0 x0 x1 _).mono ?_
    rintro e v2 ⟨rfl, rfl⟩
    go_wp2_with fail
    refine (key_any (fkeyV a0) f0 f1 _).mono ?_
    rintro e v2 ⟨rfl, rfl⟩
    go_wp2_with fail
    refine (next_any a0 x0 x1 _).mono ?_
    rintro e v2 ⟨rfl, rfl⟩
    go_wp2_with fail
    refine (prev_any (nextV a0) n0 n1 _).mono ?_
    rintro e v2 ⟨rfl, rfl⟩
    go_wp2_with fail
    refine (apart_any a0 (nextV a0) x0 x1 n0 n1 _).mono ?_
    rintro e v2 ⟨rfl, rfl⟩
    rcases hway.out with h | ⟨h, h'⟩ | ⟨h, h', p1, p2, p3, p4⟩ | ⟨h, h', p1, p2, p3, p4⟩ | ⟨h, h', p1, p3, p4, p5 | ⟨p5, p6, p7⟩⟩
    · clear hway
      go_wp2_with fail
      refine (isnan_any a0 x0 x1 _).mono ?_
      rintro e v3 ⟨rfl, q3⟩
      go_wp2_with fail
      refine (isnan_any a1 y0 y1 _).mono ?_
      rintro e v4 ⟨rfl, q4⟩
      go_wp2_with fail
      go_ret
      exact ⟨rfl, ((q1.trans q3).trans q4).grown⟩
    · clear hway
      go_wp2_with fail
      refine (isnan_any a0 x0 x1 _).mono ?_
      rintro e v3 ⟨rfl, q3⟩
      go_wp2_with fail
      refine (isnan_any a1 y0 y1 _).mono ?_
      rintro e v4 ⟨rfl, q4⟩
      go_wp2_with fail
      go_ret
      exact ⟨rfl, ((q1.trans q3).trans q4).grown⟩
    · clear hway
      go_wp2_with fail
      refine (before_any a0 a1 x0 x1 y0 y1 _).mono ?_
      rintro e v3 ⟨rfl, rfl⟩
      go_wp2_with fail
      go_ret
      exact ⟨rfl, q1.grown⟩
    · clear hway
      go_wp2_with fail
      refine (before_any a1 a0 y0 y1 x0 x1 _).mono ?_
      rintro e v3 ⟨rfl, rfl⟩
      go_wp2_with fail
      go_ret
      exact ⟨rfl, q1.grown⟩
    · clear hway
      go_wp2_with fail
      go_ret
      exact ⟨rfl, q1.grown⟩
    · clear hway
      go_wp2_with fail
      refine (class_any a0 x0 x1 _).mono ?_
      rintro e v3 ⟨rfl, q3⟩
      go_wp2_with fail
      refine (class_any a1 y0 y1 _).mono ?_
      rintro e v4 ⟨rfl, q4⟩
      go_wp2_with fail
      go_ret
      exact ⟨rfl, ((q1.trans q3).trans q4).grown⟩

set_option maxRecDepth 100000 in
theorem bitsOrder_lifted (os : Os) (started : os.Started) (H : Type) (enc : TypeId × Value → H) :
    ReturnsInHanded {} Try.checked os 6 .any (Rows.bitsOrderSpec.pre6 enc Try.prog Try.f6 Rows.bitsOrderRow.domain false) (Rows.bitsOrderSpec.post enc Try.prog Try.f6 false true false false) := by
  refine returnsInHanded_of_change (C := Try.checked) bitsOrder_own started (by kernel_rfl) Try.func6
    (ChangeSpec.witness6 (enc := enc) (C := Try.checked) false ⟨#[], #[.int .u32 0, .int .u32 0], []⟩ 8 (by kernel_rfl) (by kernel_rfl) (by kernel_rfl) (by kernel_rfl)) ?_
  intro W base args ds gs before hval0 hW hcnd _
  have hval : ∀ (j : Nat) t v, Try.f6.params[j]? = some t → args[j]? = some v → Value.okWide Try.prog W .any base t v := hval0
  have hW' := hW
  obtain ⟨p, q, hA0, hV, rfl, hfz, hnd⟩ := hW
  have hA : DataW.TrodAll enc Try.prog W 0 (fun _ => true) true Try.f6.params.toList args.toList ds p := hA0
  rw [Try.params6] at hA hval
  obtain ⟨v0, vs0, d0, ds0, p0, q0, hargs, rfl, rfl, h0, r0⟩ := trodAll_cons hA
  obtain ⟨v1, vs1, d1, ds1, p1, q1, rfl, rfl, rfl, h1, r1⟩ := trodAll_cons r0
  obtain ⟨rfl, rfl, rfl⟩ := trodAll_nil r1
  obtain rfl : args = #[v0, v1] := by cases args; simp_all
  obtain ⟨rfl, rfl⟩ := trodVars_none hV
  obtain ⟨a0, rfl, rfl, rfl, w0⟩ := open_int Try.underlying22 (hval 0 22 v0 rfl rfl) h0
  obtain ⟨a1, rfl, rfl, rfl, w1⟩ := open_int Try.underlying22 (hval 1 22 v1 rfl rfl) h1
  clear hA0 hval0
  simp only [List.append_nil] at hW'
  refine (bitsOrder_walk a0 a1 w0 w1 W).mono fun e W' ⟨he, hg⟩ => ?_
  subst he
  exact ⟨_, rfl, post_of_same (pa := []) (pv := []) hW' (fun _ _ _ => (trodAll_cons_mk (shut_bool Try.underlying4 _) trodAll_mk0)) (fun sp _ => (trodAll_cons_mk (shut_int Try.underlying22 w0) (trodAll_cons_mk (shut_int Try.underlying22 w1) trodAll_mk0))) (fun _ _ => rfl) rfl
    (hg.frame _) hg.2.1 (ok_one (by kernel_rfl) rfl (okWide_bool_mk Try.underlying4 _))⟩

theorem bitsOrder_over : Rows.bitsOrderRow.holds Try.pinned (OpenSpec.ofChange Rows.bitsOrderSpec) :=
  OpenClaim.holds_of_wide 6 Try.f6 rfl rfl rfl rfl rfl rfl rfl ⟨rfl, rfl, rfl, rfl, rfl⟩ rfl rfl rfl rfl rfl (by kernel_rfl) Try.func6 (by kernel_rfl)
    (of_decide_eq_true (by kernel_rfl)) (by unfold Func.isWrapper; first | (rw [if_pos (by decide +kernel)]; kernel_rfl) | (rw [if_neg (by decide +kernel)]; exact ⟨rfl, rfl⟩))
    (fun os started H enc _ => bitsOrder_lifted os started H enc)

theorem bitsOrder_holds : Rows.BitsOrderSaid :=
  bitsOrder_over
#print axioms bitsOrder_holds
end Go.Proofs.Ytemfgmnindikfaa
