/- The statement KernelShares: its walk. -/
import Derived.Test.YtgajobomimcoaaaGee595946
import Derived.Test.YtgajobomimcoaaaG99e196c1
namespace Go.Proofs.Ytgajobomimcoaaa
open Go.RowKit
set_option linter.unusedVariables false
set_option linter.unusedSimpArgs false

open Classical in
noncomputable def shE (zs : List Int) : Int := if shOk zs then 0 else 91
open Classical in
noncomputable def shL (zs : List Int) : List Int := if shOk zs then tabI zs.length (shrV (zf zs) zs.length) else []
theorem shL_len (zs : List Int) : (shL zs).length ≤ 64 := by
  unfold shL
  split
  · rename_i h; rw [tabI_len]; exact h.2.1
  · exact Nat.zero_le _
theorem share_all (v : Value) (zs : List Int) (w : World) (hv : ISl w v zs) (hn : zs.length ≤ 35184372088832) :
    Calls Try.prog 15 #[v] w fun e w' => ∃ u, e = .returned (.tuple #[u, .int .i64 (shE zs)]) ∧ ISl w' u (shL zs) ∧ Q w w' := by
  unfold shE shL
  by_cases h : shOk zs
  · rw [if_pos h, if_pos h]
    refine (share_good v zs w hv h).mono ?_
    rintro e w' ⟨g, h1, h2, h3, h4⟩
    have := h3.isl zs.length
    rw [tabI_len] at this
    exact ⟨_, h1, this, h4⟩
  · rw [if_neg h, if_neg h]
    refine (share_bad v zs w hv hn h).mono ?_
    rintro e w' ⟨h1, rfl⟩
    exact ⟨_, h1, Or.inr ⟨_, _, rfl, rfl⟩, Q.refl _⟩
theorem rshare_all (v : Value) (zs : List Int) (w : World) (hv : ISl w v zs) (hn : zs.length ≤ 35184372088832) :
    Calls Try.prog 14 #[v] w fun e w' => ∃ u, e = .returned (.tuple #[u, .int .i64 (shE zs)]) ∧ ISl w' u (shL zs) ∧ Q w w' := by
  unfold shE shL
  by_cases h : shOk zs
  · rw [if_pos h, if_pos h]
    refine (rshare_good v zs w hv h).mono ?_
    rintro e w' ⟨g, h1, h2, h3, h4⟩
    have := h3.isl zs.length
    rw [tabI_len] at this
    exact ⟨_, h1, this, h4⟩
  · rw [if_neg h, if_neg h]
    refine (rshare_bad v zs w hv hn h).mono ?_
    rintro e w' ⟨h1, rfl⟩
    exact ⟨_, h1, Or.inr ⟨_, _, rfl, rfl⟩, Q.refl _⟩
set_option maxHeartbeats 4000000 in
set_option maxRecDepth 100000 in
theorem kshares_walk (W : World) (v : Value) (zs : List Int) (hv : ISl W v zs) (hn : zs.length ≤ 9223372036854775807) :
    Calls Try.prog 5 #[v] W fun e w' => e = .returned (.bool true) ∧ Q W w' := by
  have C0 := known9_any W
  obtain ⟨ad, c, rfl⟩ := hv.form
  obtain ⟨N, eN⟩ : ∃ N, zs.length = N := ⟨_, rfl⟩
  have HV0 : Hid (ISl W (.slice ad N c) zs ∧ zs.length = N) := ⟨by rw [← eN]; exact hv, eN⟩
  rw [eN] at hn ⊢
  clear hv eN
  by_cases h200 : 200 < N
  · have h200z : (200 : Int) < (N : Int) := by omega
    go_enter Try.func5, Try.ntmps5
    go_wp2_with fail
    refine C0.mono ?_
    rintro e w1 ⟨rfl, q1⟩
    clear C0
    go_wp2_with fail
    go_ret
    exact ⟨rfl, q1⟩
  · have h200z : ¬ (200 : Int) < (N : Int) := by omega
    go_enter Try.func5, Try.ntmps5
    go_wp2_with fail
    refine C0.mono ?_
    rintro e w1 ⟨rfl, q1⟩
    have HQ1 : Hid (Q W w1) := q1
    have hv1 : ISl w1 (.slice ad N c) zs := HV0.out.1.next q1
    have hz := HV0.out.2
    have HV1 : Hid (ISl w1 (.slice ad N c) zs ∧ zs.length = N) := ⟨hv1, hz⟩
    clear C0 q1 HV0
    go_wp2_with (at_builtin; go_must (refine wpList_lendI w1 rfl (.tmp 13) rfl ad N c zs hz (by omega) (by simp [Act.eval, Act.put]) hv1 ?_; intro la lc w2 q2 hl2))
    have HV2 : Hid (ISl w2 (.slice la N lc) zs ∧ ISl w2 (.slice ad N c) zs ∧ Q W w2) := ⟨hl2, hv1.next q2, HQ1.out.trans q2⟩
    have C1 := rshare_all (.slice ad N c) zs w2 HV2.out.2.1 (by omega)
    obtain ⟨E, hE⟩ : ∃ E, shE zs = E := ⟨_, rfl⟩
    have HL : Hid ((shL zs).length ≤ 64 ∧ shE zs = E) := ⟨shL_len zs, hE⟩
    rw [hE] at C1
    clear q2 hl2 hv1 HQ1 HV1 hE
    have HZ : Hid (zs.length = N) := hz
    clear hz
    go_wp2_with fail
    refine C1.mono ?_
    rintro e w3 ⟨u1, rfl, l1, q3⟩
    have C2 := share_all (.slice la N lc) zs w3 (HV2.out.1.next q3) (by rw [HZ.out]; omega)
    rw [HL.out.2] at C2
    have HV3 : Hid (ISl w3 u1 (shL zs) ∧ ISl w3 (.slice la N lc) zs ∧ ISl w3 (.slice ad N c) zs ∧ Q W w3) := ⟨l1, HV2.out.1.next q3, HV2.out.2.1.next q3, HV2.out.2.2.trans q3⟩
    clear l1 q3 HV2 C1
    go_wp2_with fail
    refine C2.mono ?_
    rintro e w4 ⟨u2, rfl, l2, q4⟩
    have C3 := ints_any u2 u1 (shL zs) (shL zs) w4 l2 (HV3.out.1.next q4) (by have := HL.out.1; omega) (by have := HL.out.1; omega)
    rw [decide_eq_true rfl] at C3
    have HV4 : Hid (ISl w4 (.slice la N lc) zs ∧ ISl w4 (.slice ad N c) zs ∧ Q W w4) := ⟨HV3.out.2.1.next q4, HV3.out.2.2.1.next q4, HV3.out.2.2.2.trans q4⟩
    clear l2 q4 HV3 C2
    have hEE : (E == E) = true := by simp
    go_wp2_with fail
    refine C3.mono ?_
    rintro e w5 ⟨rfl, q5⟩
    have C4 := ints_any (.slice la N lc) (.slice ad N c) zs zs w5 (HV4.out.1.next q5) (HV4.out.2.1.next q5) (by rw [HZ.out]; omega) (by rw [HZ.out]; omega)
    rw [decide_eq_true rfl] at C4
    have HQ5 : Hid (Q W w5) := HV4.out.2.2.trans q5
    clear q5 HV4 C3
    go_wp2_with fail
    refine C4.mono ?_
    rintro e w6 ⟨rfl, q6⟩
    clear C4
    have HQ6 : Hid (Q W w6) := HQ5.out.trans q6
    clear q6
    go_wp2_with fail
    go_ret
    exact ⟨rfl, HQ6.out⟩
end Go.Proofs.Ytgajobomimcoaaa
