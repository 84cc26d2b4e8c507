/- MixRises: the walk. (gen_mrise.py) -/
import Derived.Test.YtkgojnjlfkijiabGb34a8d23
namespace Go.Proofs.Ytkgojnjlfkijiab
open Go.RowKit
set_option linter.unusedVariables false
set_option linter.unusedSimpArgs false

theorem hid_of {p : Prop} (h : p) : Hid p := h
set_option maxHeartbeats 2000000 in
set_option maxRecDepth 100000 in
theorem mrise_skip0 (s t d sa da : Nat) (hs : s < 4294967296) (ht : t < 4294967296) (hd : d < 4294967296) (ha : sa < 4294967296) (hb : da < 4294967296) (fs : ¬ rung32 s < 2139095040) (w : World) :
    Calls Try.prog 3 #[.int .u32 (s : Int), .int .u32 (t : Int), .int .u32 (d : Int), .int .u32 (sa : Int), .int .u32 (da : Int)] w fun e w' => e = .returned (.bool true) ∧ Q w w' := by
  have HFs : Hid (∀ x, Calls Try.prog 6 #[.int .u32 (s : Int)] x fun e w' => e = .returned (.bool false) ∧ w' = x) := fun x => by have := fin15_any s hs x; rw [decide_eq_false fs] at this; exact this
  clear hs ht hd ha hb fs
  go_enter Try.func3, Try.ntmps3
  go_wp2_with fail
  refine (known15_any _).mono ?_
  rintro e w1 ⟨rfl, q1⟩
  have HQ : Hid (Q w w1) := q1
  clear q1
  go_wp2_with fail
  refine (HFs.out _).mono ?_
  rintro e w9 ⟨rfl, rfl⟩
  go_wp2_with fail
  go_ret
  exact ⟨rfl, HQ.out⟩
set_option maxHeartbeats 2000000 in
set_option maxRecDepth 100000 in
theorem mrise_skip1 (s t d sa da : Nat) (hs : s < 4294967296) (ht : t < 4294967296) (hd : d < 4294967296) (ha : sa < 4294967296) (hb : da < 4294967296) (fs : rung32 s < 2139095040) (ft : ¬ rung32 t < 2139095040) (w : World) :
    Calls Try.prog 3 #[.int .u32 (s : Int), .int .u32 (t : Int), .int .u32 (d : Int), .int .u32 (sa : Int), .int .u32 (da : Int)] w fun e w' => e = .returned (.bool true) ∧ Q w w' := by
  have HFs : Hid (∀ x, Calls Try.prog 6 #[.int .u32 (s : Int)] x fun e w' => e = .returned (.bool true) ∧ w' = x) := fun x => by have := fin15_any s hs x; rw [decide_eq_true fs] at this; exact this
  have HFt : Hid (∀ x, Calls Try.prog 6 #[.int .u32 (t : Int)] x fun e w' => e = .returned (.bool false) ∧ w' = x) := fun x => by have := fin15_any t ht x; rw [decide_eq_false ft] at this; exact this
  clear hs ht hd ha hb fs ft
  go_enter Try.func3, Try.ntmps3
  go_wp2_with fail
  refine (known15_any _).mono ?_
  rintro e w1 ⟨rfl, q1⟩
  have HQ : Hid (Q w w1) := q1
  clear q1
  go_wp2_with fail
  refine (HFs.out _).mono ?_
  rintro e w9 ⟨rfl, rfl⟩
  go_wp2_with fail
  refine (HFt.out _).mono ?_
  rintro e w9 ⟨rfl, rfl⟩
  go_wp2_with fail
  go_ret
  exact ⟨rfl, HQ.out⟩
set_option maxHeartbeats 2000000 in
set_option maxRecDepth 100000 in
theorem mrise_skip2 (s t d sa da : Nat) (hs : s < 4294967296) (ht : t < 4294967296) (hd : d < 4294967296) (ha : sa < 4294967296) (hb : da < 4294967296) (fs : rung32 s < 2139095040) (ft : rung32 t < 2139095040) (fd : ¬ rung32 d < 2139095040) (w : World) :
    Calls Try.prog 3 #[.int .u32 (s : Int), .int .u32 (t : Int), .int .u32 (d : Int), .int .u32 (sa : Int), .int .u32 (da : Int)] w fun e w' => e = .returned (.bool true) ∧ Q w w' := by
  have HFs : Hid (∀ x, Calls Try.prog 6 #[.int .u32 (s : Int)] x fun e w' => e = .returned (.bool true) ∧ w' = x) := fun x => by have := fin15_any s hs x; rw [decide_eq_true fs] at this; exact this
  have HFt : Hid (∀ x, Calls Try.prog 6 #[.int .u32 (t : Int)] x fun e w' => e = .returned (.bool true) ∧ w' = x) := fun x => by have := fin15_any t ht x; rw [decide_eq_true ft] at this; exact this
  have HFd : Hid (∀ x, Calls Try.prog 6 #[.int .u32 (d : Int)] x fun e w' => e = .returned (.bool false) ∧ w' = x) := fun x => by have := fin15_any d hd x; rw [decide_eq_false fd] at this; exact this
  clear hs ht hd ha hb fs ft fd
  go_enter Try.func3, Try.ntmps3
  go_wp2_with fail
  refine (known15_any _).mono ?_
  rintro e w1 ⟨rfl, q1⟩
  have HQ : Hid (Q w w1) := q1
  clear q1
  go_wp2_with fail
  refine (HFs.out _).mono ?_
  rintro e w9 ⟨rfl, rfl⟩
  go_wp2_with fail
  refine (HFt.out _).mono ?_
  rintro e w9 ⟨rfl, rfl⟩
  go_wp2_with fail
  refine (HFd.out _).mono ?_
  rintro e w9 ⟨rfl, rfl⟩
  go_wp2_with fail
  go_ret
  exact ⟨rfl, HQ.out⟩
set_option maxHeartbeats 8000000 in
set_option maxRecDepth 100000 in
theorem mrise_good0 (s t d sa da : Nat) (hs : s < 4294967296) (ht : t < 4294967296) (hd : d < 4294967296) (ha : sa < 4294967296) (hb : da < 4294967296) (fs : rung32 s < 2139095040) (ft : rung32 t < 2139095040) (fd : rung32 d < 2139095040) (hk : srung32 s ≤ srung32 t) (w : World) :
    Calls Try.prog 3 #[.int .u32 (s : Int), .int .u32 (t : Int), .int .u32 (d : Int), .int .u32 (sa : Int), .int .u32 (da : Int)] w fun e w' => e = .returned (.bool true) ∧ Q w w' := by
  have HFs : Hid (∀ x, Calls Try.prog 6 #[.int .u32 (s : Int)] x fun e w' => e = .returned (.bool true) ∧ w' = x) := fun x => by have := fin15_any s hs x; rw [decide_eq_true fs] at this; exact this
  have HFt : Hid (∀ x, Calls Try.prog 6 #[.int .u32 (t : Int)] x fun e w' => e = .returned (.bool true) ∧ w' = x) := fun x => by have := fin15_any t ht x; rw [decide_eq_true ft] at this; exact this
  have HFd : Hid (∀ x, Calls Try.prog 6 #[.int .u32 (d : Int)] x fun e w' => e = .returned (.bool true) ∧ w' = x) := fun x => by have := fin15_any d hd x; rw [decide_eq_true fd] at this; exact this
  obtain ⟨A, hA⟩ : ∃ A, unitN sa = A := ⟨_, rfl⟩
  obtain ⟨B, hB⟩ : ∃ B, unitN da = B := ⟨_, rfl⟩
  have hA1 : A ≤ 1065353216 := by rw [← hA]; exact unitN_le sa
  have hB1 : B ≤ 1065353216 := by rw [← hB]; exact unitN_le da
  have HUA : Hid (∀ x, Calls Try.prog 7 #[.int .u32 (sa : Int)] x fun e w' => e = .returned (.int .u32 (A : Nat)) ∧ w' = x) := fun x => by have := unit15_any sa ha x; rw [hA] at this; exact this
  have HUB : Hid (∀ x, Calls Try.prog 7 #[.int .u32 (da : Int)] x fun e w' => e = .returned (.int .u32 (B : Nat)) ∧ w' = x) := fun x => by have := unit15_any da hb x; rw [hB] at this; exact this
  have huv : srung32 s ≤ srung32 t := by omega
  have HKs : Hid (∀ x, Calls Try.prog 8 #[.int .u32 (s : Int)] x fun e w' => e = .returned (.int .i64 (srung32 s)) ∧ w' = x) := fun x => key15_any s hs x
  have HKt : Hid (∀ x, Calls Try.prog 8 #[.int .u32 (t : Int)] x fun e w' => e = .returned (.int .i64 (srung32 t)) ∧ w' = x) := fun x => key15_any t ht x
  have HW : Hid (∀ (x : World) (k p q : Nat), 1 ≤ k → k ≤ 6 → p < 4294967296 → q < 4294967296 → Calls Try.prog 9 #[.int .i64 (k : Int), .int .u32 (p : Int), .int .u32 (A : Int), .int .u32 (q : Int), .int .u32 (B : Int)] x fun e w' => e = .returned (.int .u32 (mxV k p A q B : Nat)) ∧ Q x w') := fun x k p q h1 h6 hp hq => way15_any k p A q B h1 h6 hp (by omega) hq (by omega) x
  have HK : Hid (∀ (x : World) (k p q : Nat), Calls Try.prog 8 #[.int .u32 (mxV k p A q B : Nat)] x fun e w' => e = .returned (.int .i64 (srung32 (mxV k p A q B))) ∧ w' = x) := fun x k p q => key15_any _ (mxV_lt _ _ _ _ _) x
  have HR : Hid (∀ k, srung32 (mxV k s A d B) ≤ srung32 (mxV k t A d B) ∧ srung32 (mxV k d A s B) ≤ srung32 (mxV k d A t B)) := fun k => mx_rise fs ft fd (al_of hA1) (al_of hB1) huv
  have HS1 : Hid (∀ x, Calls Try.prog 10 #[.int .u32 (s : Int), .int .u32 (t : Int), .int .u32 (A : Int)] x fun e w' => e = .returned (.int .u32 (mstV s t A : Nat)) ∧ Q x w') := fun x => mstep_any s t A hs ht (by omega) x
  have HS2 : Hid (∀ x, Calls Try.prog 10 #[.int .u32 (t : Int), .int .u32 (s : Int), .int .u32 (A : Int)] x fun e w' => e = .returned (.int .u32 (mstV t s A : Nat)) ∧ Q x w') := fun x => mstep_any t s A ht hs (by omega) x
  have HS3 : Hid (∀ x, Calls Try.prog 10 #[.int .u32 (s : Int), .int .u32 (t : Int), .int .u32 0] x fun e w' => e = .returned (.int .u32 (mstV s t 0 : Nat)) ∧ Q x w') := fun x => mstep_any s t 0 hs ht (by omega) x
  have HS4 : Hid (∀ x, Calls Try.prog 10 #[.int .u32 (s : Int), .int .u32 (t : Int), .int .u32 1065353216] x fun e w' => e = .returned (.int .u32 (mstV s t 1065353216 : Nat)) ∧ Q x w') := fun x => mstep_any s t 1065353216 hs ht (by omega) x
  have HV3 : Hid (∀ x, Calls Try.prog 11 #[.int .u32 (mstV s t 0 : Nat), .int .u32 (s : Int)] x fun e w' => e = .returned (.bool true) ∧ w' = x) := fun x => by have := value15_any (mstV s t 0) s (mstV_lt _ _ _) hs x; rw [step_zero fs ft] at this; exact this
  have HV4 : Hid (∀ x, Calls Try.prog 11 #[.int .u32 (mstV s t 1065353216 : Nat), .int .u32 (t : Int)] x fun e w' => e = .returned (.bool true) ∧ w' = x) := fun x => by have := value15_any (mstV s t 1065353216) t (mstV_lt _ _ _) ht x; rw [step_one fs ft] at this; exact this
  have HKX : Hid (∀ x, Calls Try.prog 8 #[.int .u32 (mstV s t A : Nat)] x fun e w' => e = .returned (.int .i64 (srung32 (mstV s t A))) ∧ w' = x) := fun x => key15_any _ (mstV_lt _ _ _) x
  have HKY : Hid (∀ x, Calls Try.prog 8 #[.int .u32 (mstV t s A : Nat)] x fun e w' => e = .returned (.int .i64 (srung32 (mstV t s A))) ∧ w' = x) := fun x => key15_any _ (mstV_lt _ _ _) x
  obtain ⟨⟨b1, b2⟩, b3, b4⟩ := step_between fs ft (al_of hA1) huv
  generalize srung32 (mstV s t A) = kx at *
  generalize srung32 (mstV t s A) = ky at *
  generalize mstV s t A = sx at *
  generalize mstV t s A = sy at *
  generalize mstV s t 0 = s0 at *
  generalize mstV s t 1065353216 = s1 at *
  generalize srung32 s = ks at *
  generalize srung32 t = kt at *
  have HB : Hid (ks ≤ kx ∧ kx ≤ kt ∧ ks ≤ ky ∧ ky ≤ kt) := ⟨b1, b2, b3, b4⟩
  have HLT : Hid (s < 4294967296 ∧ t < 4294967296 ∧ d < 4294967296) := ⟨hs, ht, hd⟩
  have hk2 : ¬ kt < ks := by omega
  clear hs ht hd ha hb fs ft fd hk hA hB hA1 hB1 b1 b2 b3 b4 huv
  go_enter Try.func3, Try.ntmps3
  go_wp2_with fail
  refine (known15_any _).mono ?_
  rintro e w1 ⟨rfl, q1⟩
  have HQ : Hid (Q w w1) := q1
  clear q1
  go_wp2_with fail
  refine (HFs.out _).mono ?_
  rintro e w9 ⟨rfl, rfl⟩
  go_wp2_with fail
  refine (HFt.out _).mono ?_
  rintro e w9 ⟨rfl, rfl⟩
  go_wp2_with fail
  refine (HFd.out _).mono ?_
  rintro e w9 ⟨rfl, rfl⟩
  go_wp2_with fail
  refine (HUA.out _).mono ?_
  rintro e w9 ⟨rfl, rfl⟩
  go_wp2_with fail
  refine (HUB.out _).mono ?_
  rintro e w9 ⟨rfl, rfl⟩
  go_wp2_with fail
  refine (HKs.out _).mono ?_
  rintro e w9 ⟨rfl, rfl⟩
  go_wp2_with fail
  refine (HKt.out _).mono ?_
  rintro e w9 ⟨rfl, rfl⟩
  go_wp2_with fail
  go_loopg [11] 6 (fun m s11 wx => ∃ k : Nat, s11 = .int .i64 k ∧ k + m = 7 ∧ Hid (1 ≤ k) ∧ Hid (Q w wx))
  case atStart => exact ⟨1, rfl, by omega, Nat.le_refl _, HQ⟩
  case round =>
    obtain ⟨k, rfl, hkm, HK1, HQ⟩ := hrel
    by_cases hi : k ≤ 6
    · have hi6 : (k : Int) ≤ 6 := by omega
      have HI : Hid (k ≤ 6) := hi
      obtain ⟨m1, m2⟩ := HR.out k
      have W0 := fun x => HW.out x k s d HK1.out HI.out (by first | exact HLT.out.1 | exact HLT.out.2.1 | exact HLT.out.2.2) (by first | exact HLT.out.1 | exact HLT.out.2.1 | exact HLT.out.2.2)
      have K0 := fun x => HK.out x k s d
      have W1 := fun x => HW.out x k t d HK1.out HI.out (by first | exact HLT.out.1 | exact HLT.out.2.1 | exact HLT.out.2.2) (by first | exact HLT.out.1 | exact HLT.out.2.1 | exact HLT.out.2.2)
      have K1 := fun x => HK.out x k t d
      have W2 := fun x => HW.out x k d s HK1.out HI.out (by first | exact HLT.out.1 | exact HLT.out.2.1 | exact HLT.out.2.2) (by first | exact HLT.out.1 | exact HLT.out.2.1 | exact HLT.out.2.2)
      have K2 := fun x => HK.out x k d s
      have W3 := fun x => HW.out x k d t HK1.out HI.out (by first | exact HLT.out.1 | exact HLT.out.2.1 | exact HLT.out.2.2) (by first | exact HLT.out.1 | exact HLT.out.2.1 | exact HLT.out.2.2)
      have K3 := fun x => HK.out x k d t
      generalize srung32 (mxV k s A d B) = g0 at *
      generalize mxV k s A d B = v0 at *
      have W0 := hid_of W0
      have K0 := hid_of K0
      generalize srung32 (mxV k t A d B) = g1 at *
      generalize mxV k t A d B = v1 at *
      have W1 := hid_of W1
      have K1 := hid_of K1
      generalize srung32 (mxV k d A s B) = g2 at *
      generalize mxV k d A s B = v2 at *
      have W2 := hid_of W2
      have K2 := hid_of K2
      generalize srung32 (mxV k d A t B) = g3 at *
      generalize mxV k d A t B = v3 at *
      have W3 := hid_of W3
      have K3 := hid_of K3
      have m1 : ¬ g1 < g0 := by omega
      have m2 : ¬ g3 < g2 := by omega
      clear hi
      go_wp2_with fail
      refine (W0.out _).mono ?_
      rintro e y0 ⟨rfl, q0⟩
      have HQ : Hid (Q w y0) := HQ.out.trans q0
      clear q0
      go_wp2_with fail
      refine (K0.out _).mono ?_
      rintro e w9 ⟨rfl, rfl⟩
      go_wp2_with fail
      refine (W1.out _).mono ?_
      rintro e y1 ⟨rfl, q1⟩
      have HQ : Hid (Q w y1) := HQ.out.trans q1
      clear q1
      go_wp2_with fail
      refine (K1.out _).mono ?_
      rintro e w9 ⟨rfl, rfl⟩
      go_wp2_with fail
      refine (W2.out _).mono ?_
      rintro e y2 ⟨rfl, q2⟩
      have HQ : Hid (Q w y2) := HQ.out.trans q2
      clear q2
      go_wp2_with fail
      refine (K2.out _).mono ?_
      rintro e w9 ⟨rfl, rfl⟩
      go_wp2_with fail
      refine (W3.out _).mono ?_
      rintro e y3 ⟨rfl, q3⟩
      have HQ : Hid (Q w y3) := HQ.out.trans q3
      clear q3
      go_wp2_with fail
      refine (K3.out _).mono ?_
      rintro e w9 ⟨rfl, rfl⟩
      go_wp2_with fail
      go_roundg (7 - (k + 1))
      case measure => go_light; omega
      case rel => go_light; exact ⟨k + 1, by go_num, by omega, (by omega : 1 ≤ k + 1), HQ⟩
    · have hie : k = 7 := by omega
      subst hie
      have c1 : ¬ kx < ks := by have := HB.out; omega
      have c2 : ¬ kt < kx := by have := HB.out; omega
      have c3 : ¬ ky < ks := by have := HB.out; omega
      have c4 : ¬ kt < ky := by have := HB.out; omega
      go_wp2_with fail
      refine (HS1.out _).mono ?_
      rintro e z1 ⟨rfl, q1⟩
      have HQ : Hid (Q w z1) := HQ.out.trans q1
      clear q1
      go_wp2_with fail
      refine (HS2.out _).mono ?_
      rintro e z2 ⟨rfl, q2⟩
      have HQ : Hid (Q w z2) := HQ.out.trans q2
      clear q2
      go_wp2_with fail
      refine (HKX.out _).mono ?_
      rintro e w9 ⟨rfl, rfl⟩
      go_wp2_with fail
      refine (HKs.out _).mono ?_
      rintro e w9 ⟨rfl, rfl⟩
      go_wp2_with fail
      refine (HKX.out _).mono ?_
      rintro e w9 ⟨rfl, rfl⟩
      go_wp2_with fail
      refine (HKt.out _).mono ?_
      rintro e w9 ⟨rfl, rfl⟩
      go_wp2_with fail
      refine (HKY.out _).mono ?_
      rintro e w9 ⟨rfl, rfl⟩
      go_wp2_with fail
      refine (HKs.out _).mono ?_
      rintro e w9 ⟨rfl, rfl⟩
      go_wp2_with fail
      refine (HKY.out _).mono ?_
      rintro e w9 ⟨rfl, rfl⟩
      go_wp2_with fail
      refine (HKt.out _).mono ?_
      rintro e w9 ⟨rfl, rfl⟩
      go_wp2_with fail
      refine (HS3.out _).mono ?_
      rintro e z3 ⟨rfl, q3⟩
      have HQ : Hid (Q w z3) := HQ.out.trans q3
      clear q3
      go_wp2_with fail
      refine (HV3.out _).mono ?_
      rintro e w9 ⟨rfl, rfl⟩
      go_wp2_with fail
      refine (HS4.out _).mono ?_
      rintro e z4 ⟨rfl, q4⟩
      have HQ : Hid (Q w z4) := HQ.out.trans q4
      clear q4
      go_wp2_with fail
      refine (HV4.out _).mono ?_
      rintro e w9 ⟨rfl, rfl⟩
      go_wp2_with fail
      go_ret
      exact ⟨rfl, HQ.out⟩
set_option maxHeartbeats 8000000 in
set_option maxRecDepth 100000 in
theorem mrise_good1 (s t d sa da : Nat) (hs : s < 4294967296) (ht : t < 4294967296) (hd : d < 4294967296) (ha : sa < 4294967296) (hb : da < 4294967296) (fs : rung32 s < 2139095040) (ft : rung32 t < 2139095040) (fd : rung32 d < 2139095040) (hk : ¬ srung32 s ≤ srung32 t) (w : World) :
    Calls Try.prog 3 #[.int .u32 (s : Int), .int .u32 (t : Int), .int .u32 (d : Int), .int .u32 (sa : Int), .int .u32 (da : Int)] w fun e w' => e = .returned (.bool true) ∧ Q w w' := by
  have HFs : Hid (∀ x, Calls Try.prog 6 #[.int .u32 (s : Int)] x fun e w' => e = .returned (.bool true) ∧ w' = x) := fun x => by have := fin15_any s hs x; rw [decide_eq_true fs] at this; exact this
  have HFt : Hid (∀ x, Calls Try.prog 6 #[.int .u32 (t : Int)] x fun e w' => e = .returned (.bool true) ∧ w' = x) := fun x => by have := fin15_any t ht x; rw [decide_eq_true ft] at this; exact this
  have HFd : Hid (∀ x, Calls Try.prog 6 #[.int .u32 (d : Int)] x fun e w' => e = .returned (.bool true) ∧ w' = x) := fun x => by have := fin15_any d hd x; rw [decide_eq_true fd] at this; exact this
  obtain ⟨A, hA⟩ : ∃ A, unitN sa = A := ⟨_, rfl⟩
  obtain ⟨B, hB⟩ : ∃ B, unitN da = B := ⟨_, rfl⟩
  have hA1 : A ≤ 1065353216 := by rw [← hA]; exact unitN_le sa
  have hB1 : B ≤ 1065353216 := by rw [← hB]; exact unitN_le da
  have HUA : Hid (∀ x, Calls Try.prog 7 #[.int .u32 (sa : Int)] x fun e w' => e = .returned (.int .u32 (A : Nat)) ∧ w' = x) := fun x => by have := unit15_any sa ha x; rw [hA] at this; exact this
  have HUB : Hid (∀ x, Calls Try.prog 7 #[.int .u32 (da : Int)] x fun e w' => e = .returned (.int .u32 (B : Nat)) ∧ w' = x) := fun x => by have := unit15_any da hb x; rw [hB] at this; exact this
  have huv : srung32 t ≤ srung32 s := by omega
  have HKs : Hid (∀ x, Calls Try.prog 8 #[.int .u32 (s : Int)] x fun e w' => e = .returned (.int .i64 (srung32 s)) ∧ w' = x) := fun x => key15_any s hs x
  have HKt : Hid (∀ x, Calls Try.prog 8 #[.int .u32 (t : Int)] x fun e w' => e = .returned (.int .i64 (srung32 t)) ∧ w' = x) := fun x => key15_any t ht x
  have HW : Hid (∀ (x : World) (k p q : Nat), 1 ≤ k → k ≤ 6 → p < 4294967296 → q < 4294967296 → Calls Try.prog 9 #[.int .i64 (k : Int), .int .u32 (p : Int), .int .u32 (A : Int), .int .u32 (q : Int), .int .u32 (B : Int)] x fun e w' => e = .returned (.int .u32 (mxV k p A q B : Nat)) ∧ Q x w') := fun x k p q h1 h6 hp hq => way15_any k p A q B h1 h6 hp (by omega) hq (by omega) x
  have HK : Hid (∀ (x : World) (k p q : Nat), Calls Try.prog 8 #[.int .u32 (mxV k p A q B : Nat)] x fun e w' => e = .returned (.int .i64 (srung32 (mxV k p A q B))) ∧ w' = x) := fun x k p q => key15_any _ (mxV_lt _ _ _ _ _) x
  have HR : Hid (∀ k, srung32 (mxV k t A d B) ≤ srung32 (mxV k s A d B) ∧ srung32 (mxV k d A t B) ≤ srung32 (mxV k d A s B)) := fun k => mx_rise ft fs fd (al_of hA1) (al_of hB1) huv
  have HS1 : Hid (∀ x, Calls Try.prog 10 #[.int .u32 (t : Int), .int .u32 (s : Int), .int .u32 (A : Int)] x fun e w' => e = .returned (.int .u32 (mstV t s A : Nat)) ∧ Q x w') := fun x => mstep_any t s A ht hs (by omega) x
  have HS2 : Hid (∀ x, Calls Try.prog 10 #[.int .u32 (s : Int), .int .u32 (t : Int), .int .u32 (A : Int)] x fun e w' => e = .returned (.int .u32 (mstV s t A : Nat)) ∧ Q x w') := fun x => mstep_any s t A hs ht (by omega) x
  have HS3 : Hid (∀ x, Calls Try.prog 10 #[.int .u32 (t : Int), .int .u32 (s : Int), .int .u32 0] x fun e w' => e = .returned (.int .u32 (mstV t s 0 : Nat)) ∧ Q x w') := fun x => mstep_any t s 0 ht hs (by omega) x
  have HS4 : Hid (∀ x, Calls Try.prog 10 #[.int .u32 (t : Int), .int .u32 (s : Int), .int .u32 1065353216] x fun e w' => e = .returned (.int .u32 (mstV t s 1065353216 : Nat)) ∧ Q x w') := fun x => mstep_any t s 1065353216 ht hs (by omega) x
  have HV3 : Hid (∀ x, Calls Try.prog 11 #[.int .u32 (mstV t s 0 : Nat), .int .u32 (t : Int)] x fun e w' => e = .returned (.bool true) ∧ w' = x) := fun x => by have := value15_any (mstV t s 0) t (mstV_lt _ _ _) ht x; rw [step_zero ft fs] at this; exact this
  have HV4 : Hid (∀ x, Calls Try.prog 11 #[.int .u32 (mstV t s 1065353216 : Nat), .int .u32 (s : Int)] x fun e w' => e = .returned (.bool true) ∧ w' = x) := fun x => by have := value15_any (mstV t s 1065353216) s (mstV_lt _ _ _) hs x; rw [step_one ft fs] at this; exact this
  have HKX : Hid (∀ x, Calls Try.prog 8 #[.int .u32 (mstV t s A : Nat)] x fun e w' => e = .returned (.int .i64 (srung32 (mstV t s A))) ∧ w' = x) := fun x => key15_any _ (mstV_lt _ _ _) x
  have HKY : Hid (∀ x, Calls Try.prog 8 #[.int .u32 (mstV s t A : Nat)] x fun e w' => e = .returned (.int .i64 (srung32 (mstV s t A))) ∧ w' = x) := fun x => key15_any _ (mstV_lt _ _ _) x
  obtain ⟨⟨b1, b2⟩, b3, b4⟩ := step_between ft fs (al_of hA1) huv
  generalize srung32 (mstV t s A) = kx at *
  generalize srung32 (mstV s t A) = ky at *
  generalize mstV t s A = sx at *
  generalize mstV s t A = sy at *
  generalize mstV t s 0 = s0 at *
  generalize mstV t s 1065353216 = s1 at *
  generalize srung32 s = ks at *
  generalize srung32 t = kt at *
  have HB : Hid (kt ≤ kx ∧ kx ≤ ks ∧ kt ≤ ky ∧ ky ≤ ks) := ⟨b1, b2, b3, b4⟩
  have HLT : Hid (s < 4294967296 ∧ t < 4294967296 ∧ d < 4294967296) := ⟨hs, ht, hd⟩
  have hk2 : kt < ks := by omega
  clear hs ht hd ha hb fs ft fd hk hA hB hA1 hB1 b1 b2 b3 b4 huv
  go_enter Try.func3, Try.ntmps3
  go_wp2_with fail
  refine (known15_any _).mono ?_
  rintro e w1 ⟨rfl, q1⟩
  have HQ : Hid (Q w w1) := q1
  clear q1
  go_wp2_with fail
  refine (HFs.out _).mono ?_
  rintro e w9 ⟨rfl, rfl⟩
  go_wp2_with fail
  refine (HFt.out _).mono ?_
  rintro e w9 ⟨rfl, rfl⟩
  go_wp2_with fail
  refine (HFd.out _).mono ?_
  rintro e w9 ⟨rfl, rfl⟩
  go_wp2_with fail
  refine (HUA.out _).mono ?_
  rintro e w9 ⟨rfl, rfl⟩
  go_wp2_with fail
  refine (HUB.out _).mono ?_
  rintro e w9 ⟨rfl, rfl⟩
  go_wp2_with fail
  refine (HKs.out _).mono ?_
  rintro e w9 ⟨rfl, rfl⟩
  go_wp2_with fail
  refine (HKt.out _).mono ?_
  rintro e w9 ⟨rfl, rfl⟩
  go_wp2_with fail
  go_loopg [11] 6 (fun m s11 wx => ∃ k : Nat, s11 = .int .i64 k ∧ k + m = 7 ∧ Hid (1 ≤ k) ∧ Hid (Q w wx))
  case atStart => exact ⟨1, rfl, by omega, Nat.le_refl _, HQ⟩
  case round =>
    obtain ⟨k, rfl, hkm, HK1, HQ⟩ := hrel
    by_cases hi : k ≤ 6
    · have hi6 : (k : Int) ≤ 6 := by omega
      have HI : Hid (k ≤ 6) := hi
      obtain ⟨m1, m2⟩ := HR.out k
      have W0 := fun x => HW.out x k t d HK1.out HI.out (by first | exact HLT.out.1 | exact HLT.out.2.1 | exact HLT.out.2.2) (by first | exact HLT.out.1 | exact HLT.out.2.1 | exact HLT.out.2.2)
      have K0 := fun x => HK.out x k t d
      have W1 := fun x => HW.out x k s d HK1.out HI.out (by first | exact HLT.out.1 | exact HLT.out.2.1 | exact HLT.out.2.2) (by first | exact HLT.out.1 | exact HLT.out.2.1 | exact HLT.out.2.2)
      have K1 := fun x => HK.out x k s d
      have W2 := fun x => HW.out x k d t HK1.out HI.out (by first | exact HLT.out.1 | exact HLT.out.2.1 | exact HLT.out.2.2) (by first | exact HLT.out.1 | exact HLT.out.2.1 | exact HLT.out.2.2)
      have K2 := fun x => HK.out x k d t
      have W3 := fun x => HW.out x k d s HK1.out HI.out (by first | exact HLT.out.1 | exact HLT.out.2.1 | exact HLT.out.2.2) (by first | exact HLT.out.1 | exact HLT.out.2.1 | exact HLT.out.2.2)
      have K3 := fun x => HK.out x k d s
      generalize srung32 (mxV k t A d B) = g0 at *
      generalize mxV k t A d B = v0 at *
      have W0 := hid_of W0
      have K0 := hid_of K0
      generalize srung32 (mxV k s A d B) = g1 at *
      generalize mxV k s A d B = v1 at *
      have W1 := hid_of W1
      have K1 := hid_of K1
      generalize srung32 (mxV k d A t B) = g2 at *
      generalize mxV k d A t B = v2 at *
      have W2 := hid_of W2
      have K2 := hid_of K2
      generalize srung32 (mxV k d A s B) = g3 at *
      generalize mxV k d A s B = v3 at *
      have W3 := hid_of W3
      have K3 := hid_of K3
      have m1 : ¬ g1 < g0 := by omega
      have m2 : ¬ g3 < g2 := by omega
      clear hi
      go_wp2_with fail
      refine (W0.out _).mono ?_
      rintro e y0 ⟨rfl, q0⟩
      have HQ : Hid (Q w y0) := HQ.out.trans q0
      clear q0
      go_wp2_with fail
      refine (K0.out _).mono ?_
      rintro e w9 ⟨rfl, rfl⟩
      go_wp2_with fail
      refine (W1.out _).mono ?_
      rintro e y1 ⟨rfl, q1⟩
      have HQ : Hid (Q w y1) := HQ.out.trans q1
      clear q1
      go_wp2_with fail
      refine (K1.out _).mono ?_
      rintro e w9 ⟨rfl, rfl⟩
      go_wp2_with fail
      refine (W2.out _).mono ?_
      rintro e y2 ⟨rfl, q2⟩
      have HQ : Hid (Q w y2) := HQ.out.trans q2
      clear q2
      go_wp2_with fail
      refine (K2.out _).mono ?_
      rintro e w9 ⟨rfl, rfl⟩
      go_wp2_with fail
      refine (W3.out _).mono ?_
      rintro e y3 ⟨rfl, q3⟩
      have HQ : Hid (Q w y3) := HQ.out.trans q3
      clear q3
      go_wp2_with fail
      refine (K3.out _).mono ?_
      rintro e w9 ⟨rfl, rfl⟩
      go_wp2_with fail
      go_roundg (7 - (k + 1))
      case measure => go_light; omega
      case rel => go_light; exact ⟨k + 1, by go_num, by omega, (by omega : 1 ≤ k + 1), HQ⟩
    · have hie : k = 7 := by omega
      subst hie
      have c1 : ¬ kx < kt := by have := HB.out; omega
      have c2 : ¬ ks < kx := by have := HB.out; omega
      have c3 : ¬ ky < kt := by have := HB.out; omega
      have c4 : ¬ ks < ky := by have := HB.out; omega
      go_wp2_with fail
      refine (HS1.out _).mono ?_
      rintro e z1 ⟨rfl, q1⟩
      have HQ : Hid (Q w z1) := HQ.out.trans q1
      clear q1
      go_wp2_with fail
      refine (HS2.out _).mono ?_
      rintro e z2 ⟨rfl, q2⟩
      have HQ : Hid (Q w z2) := HQ.out.trans q2
      clear q2
      go_wp2_with fail
      refine (HKX.out _).mono ?_
      rintro e w9 ⟨rfl, rfl⟩
      go_wp2_with fail
      refine (HKt.out _).mono ?_
      rintro e w9 ⟨rfl, rfl⟩
      go_wp2_with fail
      refine (HKX.out _).mono ?_
      rintro e w9 ⟨rfl, rfl⟩
      go_wp2_with fail
      refine (HKs.out _).mono ?_
      rintro e w9 ⟨rfl, rfl⟩
      go_wp2_with fail
      refine (HKY.out _).mono ?_
      rintro e w9 ⟨rfl, rfl⟩
      go_wp2_with fail
      refine (HKt.out _).mono ?_
      rintro e w9 ⟨rfl, rfl⟩
      go_wp2_with fail
      refine (HKY.out _).mono ?_
      rintro e w9 ⟨rfl, rfl⟩
      go_wp2_with fail
      refine (HKs.out _).mono ?_
      rintro e w9 ⟨rfl, rfl⟩
      go_wp2_with fail
      refine (HS3.out _).mono ?_
      rintro e z3 ⟨rfl, q3⟩
      have HQ : Hid (Q w z3) := HQ.out.trans q3
      clear q3
      go_wp2_with fail
      refine (HV3.out _).mono ?_
      rintro e w9 ⟨rfl, rfl⟩
      go_wp2_with fail
      refine (HS4.out _).mono ?_
      rintro e z4 ⟨rfl, q4⟩
      have HQ : Hid (Q w z4) := HQ.out.trans q4
      clear q4
      go_wp2_with fail
      refine (HV4.out _).mono ?_
      rintro e w9 ⟨rfl, rfl⟩
      go_wp2_with fail
      go_ret
      exact ⟨rfl, HQ.out⟩
theorem mrise_walk (s t d sa da : Nat) (hs : s < 4294967296) (ht : t < 4294967296) (hd : d < 4294967296) (ha : sa < 4294967296) (hb : da < 4294967296) (w : World) :
    Calls Try.prog 3 #[.int .u32 (s : Int), .int .u32 (t : Int), .int .u32 (d : Int), .int .u32 (sa : Int), .int .u32 (da : Int)] w fun e w' => e = .returned (.bool true) ∧ Q w w' := by
  by_cases fs : rung32 s < 2139095040
  · by_cases ft : rung32 t < 2139095040
    · by_cases fd : rung32 d < 2139095040
      · by_cases hk : srung32 s ≤ srung32 t
        · exact mrise_good0 s t d sa da hs ht hd ha hb fs ft fd hk w
        · exact mrise_good1 s t d sa da hs ht hd ha hb fs ft fd hk w
      · exact mrise_skip2 s t d sa da hs ht hd ha hb fs ft fd w
    · exact mrise_skip1 s t d sa da hs ht hd ha hb fs ft w
  · exact mrise_skip0 s t d sa da hs ht hd ha hb fs w
end Go.Proofs.Ytkgojnjlfkijiab
