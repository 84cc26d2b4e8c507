/- The document's exact sums: one sample more, no number. -/
import Derived.Test.YtmgpaheobhfioaaDoorG0896ea7b
namespace Go.Proofs.YtmgpaheobhfioaaDoor
open Go.RowKit
set_option linter.unusedVariables false
set_option linter.unusedSimpArgs false

set_option maxHeartbeats 4000000 in
set_option maxRecDepth 100000 in
theorem splus_nan0 (l : List Nat) (a B : Nat) (w : World) (ha : a < 4294967296) (hS : SAt w B l) (h0 : l = []) (hn : l.length ≤ 35184372087808) (hk : numOf Ieee.single a = .nan) (hne : a ≠ 2147483648) (hsz : sumZ (l ++ [a]) = sumZ l) (E6 : fl6 (metV (l ++ [a])) = (fl6 (metV l) || true)) (E7 : fl7 (metV (l ++ [a])) = (fl7 (metV l) || false)) (E8 : fl8 (metV (l ++ [a])) = (fl8 (metV l) || false)) (E9 : fl9 (metV (l ++ [a])) = (fl9 (metV l) || true)) :
    Calls Tryd.prog 60 #[.pointer (some ⟨B, 0, none⟩), .int .u32 (a : Int)] w fun e' w' => e' = .returned (.tuple #[]) ∧ SAt w' B (l ++ [a]) ∧ Fb B w w' := by
  obtain ⟨k, s, p, L, C, e, m, hS1, hS2⟩ := hS
  have HS : Hid (SFl w B l k s p L C e m) := hS1
  have HK : Hid (numOf Ieee.single a = .nan) := hk
  have HE6 : Hid _ := E6
  have HE7 : Hid _ := E7
  have HE8 : Hid _ := E8
  have HE9 : Hid _ := E9
  have ew : IntKind.u64.wrap (a : Int) = (a : Int) := by rw [IntKind.wrap_u64]; omega
  have HLN : Hid (((l.length : Int) + 1) = ((l ++ [a]).length : Nat)) := by show ((l.length : Int) + 1) = _; rw [List.length_append, List.length_singleton]; omega
  have hb9 : ((a : Int) != 2147483648) = true := by rw [bne_iff_ne]; omega
  have hb0 : ((l.length : Int) == 0) = true := by rw [h0]; rfl
  have HZ0 : Hid (sumZ l = 0) := by show sumZ l = 0; rw [h0]; rfl
  have hm6 : fl6 (metV l) = false := by rw [h0]; decide
  have hm7 : fl7 (metV l) = false := by rw [h0]; decide
  have hm8 : fl8 (metV l) = false := by rw [h0]; decide
  have hm9 : fl9 (metV l) = false := by rw [h0]; decide
  have HSZ : Hid (sumZ (l ++ [a]) = sumZ l) := hsz
  clear hsz
  clear hS1 hS2 hk h0 E6 E7 E8 E9 hne
  go_enter Tryd.func60, Tryd.ntmps60
  go_wp2_with fail
  refine (f32_any _).mono ?_
  rintro e1 w1 ⟨rfl, q1⟩
  go_wp2_with fail
  refine (of32_any a _ ha).mono ?_
  rintro e1 w2 ⟨v, rfl, hv, q2⟩
  rw [HK.out] at hv
  obtain ⟨b', e', m', rfl⟩ := hv
  have q3 : Q w2 (w2.alloc (Obj.cells #[.int .i64 0, .bool b', .slice none 0 0, .int .i64 e', .bool m'] 43)) := (Q.refl w2).cells _ _
  have HS2 : Hid (SFl _ B l k s p L C e m) := HS.out.next ((q1.trans q2).trans q3)
  have HQ2 : Hid (Q w _) := (q1.trans q2).trans q3
  have HXb : Hid (Box5 (w2.alloc (Obj.cells #[.int .i64 0, .bool b', .slice none 0 0, .int .i64 e', .bool m'] 43)) w2.heap.size 0 b' none 0 0 e' m') := ⟨by simp [go_sem], by simp [go_sem], by simp [go_sem], by simp [go_sem], by simp [go_sem]⟩
  have HBX : Hid (w2.heap.size ≠ B) := by
    have h1 := HS.out.h
    have h2 := (q1.trans q2).1.size
    show w2.heap.size ≠ B
    omega
  have hBX : ¬ B = w2.heap.size := fun e => HBX.out e.symm
  have d5 := HS2.out.n
  have d6 := HS2.out.c6
  have d7 := HS2.out.c7
  have d8 := HS2.out.c8
  have d9 := HS2.out.c9
  have z := HS2.out.z
  have g0 := HS2.out.b.c0
  have g1 := HS2.out.b.c1
  have g2 := HS2.out.b.c2
  have g3 := HS2.out.b.c3
  have g4 := HS2.out.b.c4
  clear q1 q2 HS q3
  have x0 := HXb.out.c0
  have x1 := HXb.out.c1
  have x2 := HXb.out.c2
  have x3 := HXb.out.c3
  have x4 := HXb.out.c4
  have zX : ∀ j, (w2.alloc (Obj.cells #[.int .i64 0, .bool b', .slice none 0 0, .int .i64 e', .bool m'] 43)).frozen? ⟨w2.heap.size, j, none⟩ = false := fun j => by simp [go_sem]
  obtain ⟨y, hy⟩ : ∃ y, (w2.alloc (Obj.cells #[.int .i64 0, .bool b', .slice none 0 0, .int .i64 e', .bool m'] 43)) = y := ⟨_, rfl⟩
  rw [hy] at zX HS2 HQ2 HXb d5 d6 d7 d8 d9 z x0 x1 x2 x3 x4 g0 g1 g2 g3 g4
  rw [hm6] at d6 HE6
  rw [hm7] at d7 HE7
  rw [hm8] at d8 HE8
  rw [hm9] at d9 HE9
  clear hm6 hm7 hm8 hm9
  (go_wp2_with fail; exact bodyPost_end (results_none Tryd.results60 _ _ _) rfl ⟨rfl, ⟨_, _, _, _, _, _, _, ((HS2.out.over 2 false none 0 0 0 false).put (l' := l ++ [a]) HLN.out HE6.out.symm HE7.out.symm HE8.out.symm HE9.out.symm), fun _ => (SNm.put (SNm.over HS2.out.b ⟨0, num_start _, by rw [HZ0.out]; exact Val.start⟩) (put0_box HS2.out.b).c0 HSZ.out)⟩, (((HQ2.out.fb B).trans put0_fb).trans putS_fb)⟩)
set_option maxHeartbeats 4000000 in
set_option maxRecDepth 100000 in
theorem splus_nan (l : List Nat) (a B : Nat) (w : World) (ha : a < 4294967296) (hS : SAt w B l) (h0 : l ≠ []) (hn : l.length ≤ 35184372087808) (hk : numOf Ieee.single a = .nan) (hne : a ≠ 2147483648) (hsz : sumZ (l ++ [a]) = sumZ l) (E6 : fl6 (metV (l ++ [a])) = (fl6 (metV l) || true)) (E7 : fl7 (metV (l ++ [a])) = (fl7 (metV l) || false)) (E8 : fl8 (metV (l ++ [a])) = (fl8 (metV l) || false)) (E9 : fl9 (metV (l ++ [a])) = (fl9 (metV l) || true)) :
    Calls Tryd.prog 60 #[.pointer (some ⟨B, 0, none⟩), .int .u32 (a : Int)] w fun e' w' => e' = .returned (.tuple #[]) ∧ SAt w' B (l ++ [a]) ∧ Fb B w w' := by
  obtain ⟨k, s, p, L, C, e, m, hS1, hS2⟩ := hS
  have HS : Hid (SFl w B l k s p L C e m) := hS1
  have HK : Hid (numOf Ieee.single a = .nan) := hk
  have HE6 : Hid _ := E6
  have HE7 : Hid _ := E7
  have HE8 : Hid _ := E8
  have HE9 : Hid _ := E9
  have ew : IntKind.u64.wrap (a : Int) = (a : Int) := by rw [IntKind.wrap_u64]; omega
  have HLN : Hid (((l.length : Int) + 1) = ((l ++ [a]).length : Nat)) := by show ((l.length : Int) + 1) = _; rw [List.length_append, List.length_singleton]; omega
  have hb9 : ((a : Int) != 2147483648) = true := by rw [bne_iff_ne]; omega
  have HN : Hid (SNm w l k s p L C e m) := hS2 h0
  have hb0 : ((l.length : Int) == 0) = false := by
    rw [beq_eq_false_iff_ne]
    have : l.length ≠ 0 := fun g => h0 (List.eq_nil_of_length_eq_zero g)
    omega
  have HSZ : Hid (sumZ (l ++ [a]) = sumZ l) := hsz
  clear hsz
  clear hS1 hS2 hk h0 E6 E7 E8 E9 hne
  go_enter Tryd.func60, Tryd.ntmps60
  go_wp2_with fail
  refine (f32_any _).mono ?_
  rintro e1 w1 ⟨rfl, q1⟩
  go_wp2_with fail
  refine (of32_any a _ ha).mono ?_
  rintro e1 w2 ⟨v, rfl, hv, q2⟩
  rw [HK.out] at hv
  obtain ⟨b', e', m', rfl⟩ := hv
  have q3 : Q w2 (w2.alloc (Obj.cells #[.int .i64 0, .bool b', .slice none 0 0, .int .i64 e', .bool m'] 43)) := (Q.refl w2).cells _ _
  have HS2 : Hid (SFl _ B l k s p L C e m) := HS.out.next ((q1.trans q2).trans q3)
  have HQ2 : Hid (Q w _) := (q1.trans q2).trans q3
  have HN2 : Hid (SNm _ l k s p L C e m) := HN.out.next ((q1.trans q2).trans q3)
  have HXb : Hid (Box5 (w2.alloc (Obj.cells #[.int .i64 0, .bool b', .slice none 0 0, .int .i64 e', .bool m'] 43)) w2.heap.size 0 b' none 0 0 e' m') := ⟨by simp [go_sem], by simp [go_sem], by simp [go_sem], by simp [go_sem], by simp [go_sem]⟩
  have HBX : Hid (w2.heap.size ≠ B) := by
    have h1 := HS.out.h
    have h2 := (q1.trans q2).1.size
    show w2.heap.size ≠ B
    omega
  have hBX : ¬ B = w2.heap.size := fun e => HBX.out e.symm
  have d5 := HS2.out.n
  have d6 := HS2.out.c6
  have d7 := HS2.out.c7
  have d8 := HS2.out.c8
  have d9 := HS2.out.c9
  have z := HS2.out.z
  clear q1 q2 HS q3 HN
  have x0 := HXb.out.c0
  have x1 := HXb.out.c1
  have x2 := HXb.out.c2
  have x3 := HXb.out.c3
  have x4 := HXb.out.c4
  have zX : ∀ j, (w2.alloc (Obj.cells #[.int .i64 0, .bool b', .slice none 0 0, .int .i64 e', .bool m'] 43)).frozen? ⟨w2.heap.size, j, none⟩ = false := fun j => by simp [go_sem]
  obtain ⟨y, hy⟩ : ∃ y, (w2.alloc (Obj.cells #[.int .i64 0, .bool b', .slice none 0 0, .int .i64 e', .bool m'] 43)) = y := ⟨_, rfl⟩
  rw [hy] at zX HS2 HQ2 HXb d5 d6 d7 d8 d9 z x0 x1 x2 x3 x4 HN2
  generalize fl6 (metV l) = b6 at *
  generalize fl7 (metV l) = b7 at *
  generalize fl8 (metV l) = b8 at *
  generalize fl9 (metV l) = b9 at *
  cases b6 <;> cases b7 <;> cases b8 <;> cases b9
  all_goals (go_wp2_with fail; exact bodyPost_end (results_none Tryd.results60 _ _ _) rfl ⟨rfl, ⟨_, _, _, _, _, _, _, (HS2.out.put (l' := l ++ [a]) HLN.out HE6.out.symm HE7.out.symm HE8.out.symm HE9.out.symm), fun _ => (HN2.out.put HS2.out.b.c0 HSZ.out)⟩, ((HQ2.out.fb B).trans putS_fb)⟩)
set_option maxHeartbeats 4000000 in
set_option maxRecDepth 100000 in
theorem splus_pinf0 (l : List Nat) (a B : Nat) (w : World) (ha : a < 4294967296) (hS : SAt w B l) (h0 : l = []) (hn : l.length ≤ 35184372087808) (hk : numOf Ieee.single a = .inf false) (hne : a ≠ 2147483648) (hsz : sumZ (l ++ [a]) = sumZ l) (E6 : fl6 (metV (l ++ [a])) = (fl6 (metV l) || false)) (E7 : fl7 (metV (l ++ [a])) = (fl7 (metV l) || true)) (E8 : fl8 (metV (l ++ [a])) = (fl8 (metV l) || false)) (E9 : fl9 (metV (l ++ [a])) = (fl9 (metV l) || true)) :
    Calls Tryd.prog 60 #[.pointer (some ⟨B, 0, none⟩), .int .u32 (a : Int)] w fun e' w' => e' = .returned (.tuple #[]) ∧ SAt w' B (l ++ [a]) ∧ Fb B w w' := by
  obtain ⟨k, s, p, L, C, e, m, hS1, hS2⟩ := hS
  have HS : Hid (SFl w B l k s p L C e m) := hS1
  have HK : Hid (numOf Ieee.single a = .inf false) := hk
  have HE6 : Hid _ := E6
  have HE7 : Hid _ := E7
  have HE8 : Hid _ := E8
  have HE9 : Hid _ := E9
  have ew : IntKind.u64.wrap (a : Int) = (a : Int) := by rw [IntKind.wrap_u64]; omega
  have HLN : Hid (((l.length : Int) + 1) = ((l ++ [a]).length : Nat)) := by show ((l.length : Int) + 1) = _; rw [List.length_append, List.length_singleton]; omega
  have hb9 : ((a : Int) != 2147483648) = true := by rw [bne_iff_ne]; omega
  have hb0 : ((l.length : Int) == 0) = true := by rw [h0]; rfl
  have HZ0 : Hid (sumZ l = 0) := by show sumZ l = 0; rw [h0]; rfl
  have hm6 : fl6 (metV l) = false := by rw [h0]; decide
  have hm7 : fl7 (metV l) = false := by rw [h0]; decide
  have hm8 : fl8 (metV l) = false := by rw [h0]; decide
  have hm9 : fl9 (metV l) = false := by rw [h0]; decide
  have HSZ : Hid (sumZ (l ++ [a]) = sumZ l) := hsz
  clear hsz
  clear hS1 hS2 hk h0 E6 E7 E8 E9 hne
  go_enter Tryd.func60, Tryd.ntmps60
  go_wp2_with fail
  refine (f32_any _).mono ?_
  rintro e1 w1 ⟨rfl, q1⟩
  go_wp2_with fail
  refine (of32_any a _ ha).mono ?_
  rintro e1 w2 ⟨v, rfl, hv, q2⟩
  rw [HK.out] at hv
  obtain ⟨e', m', rfl⟩ := hv
  have q3 : Q w2 (w2.alloc (Obj.cells #[.int .i64 1, .bool false, .slice none 0 0, .int .i64 e', .bool m'] 43)) := (Q.refl w2).cells _ _
  have HS2 : Hid (SFl _ B l k s p L C e m) := HS.out.next ((q1.trans q2).trans q3)
  have HQ2 : Hid (Q w _) := (q1.trans q2).trans q3
  have HXb : Hid (Box5 (w2.alloc (Obj.cells #[.int .i64 1, .bool false, .slice none 0 0, .int .i64 e', .bool m'] 43)) w2.heap.size 1 false none 0 0 e' m') := ⟨by simp [go_sem], by simp [go_sem], by simp [go_sem], by simp [go_sem], by simp [go_sem]⟩
  have HBX : Hid (w2.heap.size ≠ B) := by
    have h1 := HS.out.h
    have h2 := (q1.trans q2).1.size
    show w2.heap.size ≠ B
    omega
  have hBX : ¬ B = w2.heap.size := fun e => HBX.out e.symm
  have d5 := HS2.out.n
  have d6 := HS2.out.c6
  have d7 := HS2.out.c7
  have d8 := HS2.out.c8
  have d9 := HS2.out.c9
  have z := HS2.out.z
  have g0 := HS2.out.b.c0
  have g1 := HS2.out.b.c1
  have g2 := HS2.out.b.c2
  have g3 := HS2.out.b.c3
  have g4 := HS2.out.b.c4
  clear q1 q2 HS q3
  have x0 := HXb.out.c0
  have x1 := HXb.out.c1
  have x2 := HXb.out.c2
  have x3 := HXb.out.c3
  have x4 := HXb.out.c4
  have zX : ∀ j, (w2.alloc (Obj.cells #[.int .i64 1, .bool false, .slice none 0 0, .int .i64 e', .bool m'] 43)).frozen? ⟨w2.heap.size, j, none⟩ = false := fun j => by simp [go_sem]
  obtain ⟨y, hy⟩ : ∃ y, (w2.alloc (Obj.cells #[.int .i64 1, .bool false, .slice none 0 0, .int .i64 e', .bool m'] 43)) = y := ⟨_, rfl⟩
  rw [hy] at zX HS2 HQ2 HXb d5 d6 d7 d8 d9 z x0 x1 x2 x3 x4 g0 g1 g2 g3 g4
  rw [hm6] at d6 HE6
  rw [hm7] at d7 HE7
  rw [hm8] at d8 HE8
  rw [hm9] at d9 HE9
  clear hm6 hm7 hm8 hm9
  (go_wp2_with fail; exact bodyPost_end (results_none Tryd.results60 _ _ _) rfl ⟨rfl, ⟨_, _, _, _, _, _, _, ((HS2.out.over 2 false none 0 0 0 false).put (l' := l ++ [a]) HLN.out HE6.out.symm HE7.out.symm HE8.out.symm HE9.out.symm), fun _ => (SNm.put (SNm.over HS2.out.b ⟨0, num_start _, by rw [HZ0.out]; exact Val.start⟩) (put0_box HS2.out.b).c0 HSZ.out)⟩, (((HQ2.out.fb B).trans put0_fb).trans putS_fb)⟩)
set_option maxHeartbeats 4000000 in
set_option maxRecDepth 100000 in
theorem splus_pinf (l : List Nat) (a B : Nat) (w : World) (ha : a < 4294967296) (hS : SAt w B l) (h0 : l ≠ []) (hn : l.length ≤ 35184372087808) (hk : numOf Ieee.single a = .inf false) (hne : a ≠ 2147483648) (hsz : sumZ (l ++ [a]) = sumZ l) (E6 : fl6 (metV (l ++ [a])) = (fl6 (metV l) || false)) (E7 : fl7 (metV (l ++ [a])) = (fl7 (metV l) || true)) (E8 : fl8 (metV (l ++ [a])) = (fl8 (metV l) || false)) (E9 : fl9 (metV (l ++ [a])) = (fl9 (metV l) || true)) :
    Calls Tryd.prog 60 #[.pointer (some ⟨B, 0, none⟩), .int .u32 (a : Int)] w fun e' w' => e' = .returned (.tuple #[]) ∧ SAt w' B (l ++ [a]) ∧ Fb B w w' := by
  obtain ⟨k, s, p, L, C, e, m, hS1, hS2⟩ := hS
  have HS : Hid (SFl w B l k s p L C e m) := hS1
  have HK : Hid (numOf Ieee.single a = .inf false) := hk
  have HE6 : Hid _ := E6
  have HE7 : Hid _ := E7
  have HE8 : Hid _ := E8
  have HE9 : Hid _ := E9
  have ew : IntKind.u64.wrap (a : Int) = (a : Int) := by rw [IntKind.wrap_u64]; omega
  have HLN : Hid (((l.length : Int) + 1) = ((l ++ [a]).length : Nat)) := by show ((l.length : Int) + 1) = _; rw [List.length_append, List.length_singleton]; omega
  have hb9 : ((a : Int) != 2147483648) = true := by rw [bne_iff_ne]; omega
  have HN : Hid (SNm w l k s p L C e m) := hS2 h0
  have hb0 : ((l.length : Int) == 0) = false := by
    rw [beq_eq_false_iff_ne]
    have : l.length ≠ 0 := fun g => h0 (List.eq_nil_of_length_eq_zero g)
    omega
  have HSZ : Hid (sumZ (l ++ [a]) = sumZ l) := hsz
  clear hsz
  clear hS1 hS2 hk h0 E6 E7 E8 E9 hne
  go_enter Tryd.func60, Tryd.ntmps60
  go_wp2_with fail
  refine (f32_any _).mono ?_
  rintro e1 w1 ⟨rfl, q1⟩
  go_wp2_with fail
  refine (of32_any a _ ha).mono ?_
  rintro e1 w2 ⟨v, rfl, hv, q2⟩
  rw [HK.out] at hv
  obtain ⟨e', m', rfl⟩ := hv
  have q3 : Q w2 (w2.alloc (Obj.cells #[.int .i64 1, .bool false, .slice none 0 0, .int .i64 e', .bool m'] 43)) := (Q.refl w2).cells _ _
  have HS2 : Hid (SFl _ B l k s p L C e m) := HS.out.next ((q1.trans q2).trans q3)
  have HQ2 : Hid (Q w _) := (q1.trans q2).trans q3
  have HN2 : Hid (SNm _ l k s p L C e m) := HN.out.next ((q1.trans q2).trans q3)
  have HXb : Hid (Box5 (w2.alloc (Obj.cells #[.int .i64 1, .bool false, .slice none 0 0, .int .i64 e', .bool m'] 43)) w2.heap.size 1 false none 0 0 e' m') := ⟨by simp [go_sem], by simp [go_sem], by simp [go_sem], by simp [go_sem], by simp [go_sem]⟩
  have HBX : Hid (w2.heap.size ≠ B) := by
    have h1 := HS.out.h
    have h2 := (q1.trans q2).1.size
    show w2.heap.size ≠ B
    omega
  have hBX : ¬ B = w2.heap.size := fun e => HBX.out e.symm
  have d5 := HS2.out.n
  have d6 := HS2.out.c6
  have d7 := HS2.out.c7
  have d8 := HS2.out.c8
  have d9 := HS2.out.c9
  have z := HS2.out.z
  clear q1 q2 HS q3 HN
  have x0 := HXb.out.c0
  have x1 := HXb.out.c1
  have x2 := HXb.out.c2
  have x3 := HXb.out.c3
  have x4 := HXb.out.c4
  have zX : ∀ j, (w2.alloc (Obj.cells #[.int .i64 1, .bool false, .slice none 0 0, .int .i64 e', .bool m'] 43)).frozen? ⟨w2.heap.size, j, none⟩ = false := fun j => by simp [go_sem]
  obtain ⟨y, hy⟩ : ∃ y, (w2.alloc (Obj.cells #[.int .i64 1, .bool false, .slice none 0 0, .int .i64 e', .bool m'] 43)) = y := ⟨_, rfl⟩
  rw [hy] at zX HS2 HQ2 HXb d5 d6 d7 d8 d9 z x0 x1 x2 x3 x4 HN2
  generalize fl6 (metV l) = b6 at *
  generalize fl7 (metV l) = b7 at *
  generalize fl8 (metV l) = b8 at *
  generalize fl9 (metV l) = b9 at *
  cases b6 <;> cases b7 <;> cases b8 <;> cases b9
  all_goals (go_wp2_with fail; exact bodyPost_end (results_none Tryd.results60 _ _ _) rfl ⟨rfl, ⟨_, _, _, _, _, _, _, (HS2.out.put (l' := l ++ [a]) HLN.out HE6.out.symm HE7.out.symm HE8.out.symm HE9.out.symm), fun _ => (HN2.out.put HS2.out.b.c0 HSZ.out)⟩, ((HQ2.out.fb B).trans putS_fb)⟩)
set_option maxHeartbeats 4000000 in
set_option maxRecDepth 100000 in
theorem splus_minf0 (l : List Nat) (a B : Nat) (w : World) (ha : a < 4294967296) (hS : SAt w B l) (h0 : l = []) (hn : l.length ≤ 35184372087808) (hk : numOf Ieee.single a = .inf true) (hne : a ≠ 2147483648) (hsz : sumZ (l ++ [a]) = sumZ l) (E6 : fl6 (metV (l ++ [a])) = (fl6 (metV l) || false)) (E7 : fl7 (metV (l ++ [a])) = (fl7 (metV l) || false)) (E8 : fl8 (metV (l ++ [a])) = (fl8 (metV l) || true)) (E9 : fl9 (metV (l ++ [a])) = (fl9 (metV l) || true)) :
    Calls Tryd.prog 60 #[.pointer (some ⟨B, 0, none⟩), .int .u32 (a : Int)] w fun e' w' => e' = .returned (.tuple #[]) ∧ SAt w' B (l ++ [a]) ∧ Fb B w w' := by
  obtain ⟨k, s, p, L, C, e, m, hS1, hS2⟩ := hS
  have HS : Hid (SFl w B l k s p L C e m) := hS1
  have HK : Hid (numOf Ieee.single a = .inf true) := hk
  have HE6 : Hid _ := E6
  have HE7 : Hid _ := E7
  have HE8 : Hid _ := E8
  have HE9 : Hid _ := E9
  have ew : IntKind.u64.wrap (a : Int) = (a : Int) := by rw [IntKind.wrap_u64]; omega
  have HLN : Hid (((l.length : Int) + 1) = ((l ++ [a]).length : Nat)) := by show ((l.length : Int) + 1) = _; rw [List.length_append, List.length_singleton]; omega
  have hb9 : ((a : Int) != 2147483648) = true := by rw [bne_iff_ne]; omega
  have hb0 : ((l.length : Int) == 0) = true := by rw [h0]; rfl
  have HZ0 : Hid (sumZ l = 0) := by show sumZ l = 0; rw [h0]; rfl
  have hm6 : fl6 (metV l) = false := by rw [h0]; decide
  have hm7 : fl7 (metV l) = false := by rw [h0]; decide
  have hm8 : fl8 (metV l) = false := by rw [h0]; decide
  have hm9 : fl9 (metV l) = false := by rw [h0]; decide
  have HSZ : Hid (sumZ (l ++ [a]) = sumZ l) := hsz
  clear hsz
  clear hS1 hS2 hk h0 E6 E7 E8 E9 hne
  go_enter Tryd.func60, Tryd.ntmps60
  go_wp2_with fail
  refine (f32_any _).mono ?_
  rintro e1 w1 ⟨rfl, q1⟩
  go_wp2_with fail
  refine (of32_any a _ ha).mono ?_
  rintro e1 w2 ⟨v, rfl, hv, q2⟩
  rw [HK.out] at hv
  obtain ⟨e', m', rfl⟩ := hv
  have q3 : Q w2 (w2.alloc (Obj.cells #[.int .i64 1, .bool true, .slice none 0 0, .int .i64 e', .bool m'] 43)) := (Q.refl w2).cells _ _
  have HS2 : Hid (SFl _ B l k s p L C e m) := HS.out.next ((q1.trans q2).trans q3)
  have HQ2 : Hid (Q w _) := (q1.trans q2).trans q3
  have HXb : Hid (Box5 (w2.alloc (Obj.cells #[.int .i64 1, .bool true, .slice none 0 0, .int .i64 e', .bool m'] 43)) w2.heap.size 1 true none 0 0 e' m') := ⟨by simp [go_sem], by simp [go_sem], by simp [go_sem], by simp [go_sem], by simp [go_sem]⟩
  have HBX : Hid (w2.heap.size ≠ B) := by
    have h1 := HS.out.h
    have h2 := (q1.trans q2).1.size
    show w2.heap.size ≠ B
    omega
  have hBX : ¬ B = w2.heap.size := fun e => HBX.out e.symm
  have d5 := HS2.out.n
  have d6 := HS2.out.c6
  have d7 := HS2.out.c7
  have d8 := HS2.out.c8
  have d9 := HS2.out.c9
  have z := HS2.out.z
  have g0 := HS2.out.b.c0
  have g1 := HS2.out.b.c1
  have g2 := HS2.out.b.c2
  have g3 := HS2.out.b.c3
  have g4 := HS2.out.b.c4
  clear q1 q2 HS q3
  have x0 := HXb.out.c0
  have x1 := HXb.out.c1
  have x2 := HXb.out.c2
  have x3 := HXb.out.c3
  have x4 := HXb.out.c4
  have zX : ∀ j, (w2.alloc (Obj.cells #[.int .i64 1, .bool true, .slice none 0 0, .int .i64 e', .bool m'] 43)).frozen? ⟨w2.heap.size, j, none⟩ = false := fun j => by simp [go_sem]
  obtain ⟨y, hy⟩ : ∃ y, (w2.alloc (Obj.cells #[.int .i64 1, .bool true, .slice none 0 0, .int .i64 e', .bool m'] 43)) = y := ⟨_, rfl⟩
  rw [hy] at zX HS2 HQ2 HXb d5 d6 d7 d8 d9 z x0 x1 x2 x3 x4 g0 g1 g2 g3 g4
  rw [hm6] at d6 HE6
  rw [hm7] at d7 HE7
  rw [hm8] at d8 HE8
  rw [hm9] at d9 HE9
  clear hm6 hm7 hm8 hm9
  (go_wp2_with fail; exact bodyPost_end (results_none Tryd.results60 _ _ _) rfl ⟨rfl, ⟨_, _, _, _, _, _, _, ((HS2.out.over 2 false none 0 0 0 false).put (l' := l ++ [a]) HLN.out HE6.out.symm HE7.out.symm HE8.out.symm HE9.out.symm), fun _ => (SNm.put (SNm.over HS2.out.b ⟨0, num_start _, by rw [HZ0.out]; exact Val.start⟩) (put0_box HS2.out.b).c0 HSZ.out)⟩, (((HQ2.out.fb B).trans put0_fb).trans putS_fb)⟩)
set_option maxHeartbeats 4000000 in
set_option maxRecDepth 100000 in
theorem splus_minf (l : List Nat) (a B : Nat) (w : World) (ha : a < 4294967296) (hS : SAt w B l) (h0 : l ≠ []) (hn : l.length ≤ 35184372087808) (hk : numOf Ieee.single a = .inf true) (hne : a ≠ 2147483648) (hsz : sumZ (l ++ [a]) = sumZ l) (E6 : fl6 (metV (l ++ [a])) = (fl6 (metV l) || false)) (E7 : fl7 (metV (l ++ [a])) = (fl7 (metV l) || false)) (E8 : fl8 (metV (l ++ [a])) = (fl8 (metV l) || true)) (E9 : fl9 (metV (l ++ [a])) = (fl9 (metV l) || true)) :
    Calls Tryd.prog 60 #[.pointer (some ⟨B, 0, none⟩), .int .u32 (a : Int)] w fun e' w' => e' = .returned (.tuple #[]) ∧ SAt w' B (l ++ [a]) ∧ Fb B w w' := by
  obtain ⟨k, s, p, L, C, e, m, hS1, hS2⟩ := hS
  have HS : Hid (SFl w B l k s p L C e m) := hS1
  have HK : Hid (numOf Ieee.single a = .inf true) := hk
  have HE6 : Hid _ := E6
  have HE7 : Hid _ := E7
  have HE8 : Hid _ := E8
  have HE9 : Hid _ := E9
  have ew : IntKind.u64.wrap (a : Int) = (a : Int) := by rw [IntKind.wrap_u64]; omega
  have HLN : Hid (((l.length : Int) + 1) = ((l ++ [a]).length : Nat)) := by show ((l.length : Int) + 1) = _; rw [List.length_append, List.length_singleton]; omega
  have hb9 : ((a : Int) != 2147483648) = true := by rw [bne_iff_ne]; omega
  have HN : Hid (SNm w l k s p L C e m) := hS2 h0
  have hb0 : ((l.length : Int) == 0) = false := by
    rw [beq_eq_false_iff_ne]
    have : l.length ≠ 0 := fun g => h0 (List.eq_nil_of_length_eq_zero g)
    omega
  have HSZ : Hid (sumZ (l ++ [a]) = sumZ l) := hsz
  clear hsz
  clear hS1 hS2 hk h0 E6 E7 E8 E9 hne
  go_enter Tryd.func60, Tryd.ntmps60
  go_wp2_with fail
  refine (f32_any _).mono ?_
  rintro e1 w1 ⟨rfl, q1⟩
  go_wp2_with fail
  refine (of32_any a _ ha).mono ?_
  rintro e1 w2 ⟨v, rfl, hv, q2⟩
  rw [HK.out] at hv
  obtain ⟨e', m', rfl⟩ := hv
  have q3 : Q w2 (w2.alloc (Obj.cells #[.int .i64 1, .bool true, .slice none 0 0, .int .i64 e', .bool m'] 43)) := (Q.refl w2).cells _ _
  have HS2 : Hid (SFl _ B l k s p L C e m) := HS.out.next ((q1.trans q2).trans q3)
  have HQ2 : Hid (Q w _) := (q1.trans q2).trans q3
  have HN2 : Hid (SNm _ l k s p L C e m) := HN.out.next ((q1.trans q2).trans q3)
  have HXb : Hid (Box5 (w2.alloc (Obj.cells #[.int .i64 1, .bool true, .slice none 0 0, .int .i64 e', .bool m'] 43)) w2.heap.size 1 true none 0 0 e' m') := ⟨by simp [go_sem], by simp [go_sem], by simp [go_sem], by simp [go_sem], by simp [go_sem]⟩
  have HBX : Hid (w2.heap.size ≠ B) := by
    have h1 := HS.out.h
    have h2 := (q1.trans q2).1.size
    show w2.heap.size ≠ B
    omega
  have hBX : ¬ B = w2.heap.size := fun e => HBX.out e.symm
  have d5 := HS2.out.n
  have d6 := HS2.out.c6
  have d7 := HS2.out.c7
  have d8 := HS2.out.c8
  have d9 := HS2.out.c9
  have z := HS2.out.z
  clear q1 q2 HS q3 HN
  have x0 := HXb.out.c0
  have x1 := HXb.out.c1
  have x2 := HXb.out.c2
  have x3 := HXb.out.c3
  have x4 := HXb.out.c4
  have zX : ∀ j, (w2.alloc (Obj.cells #[.int .i64 1, .bool true, .slice none 0 0, .int .i64 e', .bool m'] 43)).frozen? ⟨w2.heap.size, j, none⟩ = false := fun j => by simp [go_sem]
  obtain ⟨y, hy⟩ : ∃ y, (w2.alloc (Obj.cells #[.int .i64 1, .bool true, .slice none 0 0, .int .i64 e', .bool m'] 43)) = y := ⟨_, rfl⟩
  rw [hy] at zX HS2 HQ2 HXb d5 d6 d7 d8 d9 z x0 x1 x2 x3 x4 HN2
  generalize fl6 (metV l) = b6 at *
  generalize fl7 (metV l) = b7 at *
  generalize fl8 (metV l) = b8 at *
  generalize fl9 (metV l) = b9 at *
  cases b6 <;> cases b7 <;> cases b8 <;> cases b9
  all_goals (go_wp2_with fail; exact bodyPost_end (results_none Tryd.results60 _ _ _) rfl ⟨rfl, ⟨_, _, _, _, _, _, _, (HS2.out.put (l' := l ++ [a]) HLN.out HE6.out.symm HE7.out.symm HE8.out.symm HE9.out.symm), fun _ => (HN2.out.put HS2.out.b.c0 HSZ.out)⟩, ((HQ2.out.fb B).trans putS_fb)⟩)
end Go.Proofs.YtmgpaheobhfioaaDoor
/- The document's exact sums: one sample more, nought. -/
namespace Go.Proofs.YtmgpaheobhfioaaDoor
open Go.RowKit
set_option linter.unusedVariables false
set_option linter.unusedSimpArgs false

set_option maxHeartbeats 4000000 in
set_option maxRecDepth 100000 in
theorem splus_zero0 (l : List Nat) (a B : Nat) (w : World) (s2 : Bool) (e2 : Int) (c9 : Bool) (hc9 : (((a : Nat) : Int) != 2147483648) = c9) (ha : a < 4294967296) (hS : SAt w B l) (h0 : l = []) (hn : l.length ≤ 35184372087808) (hk : numOf Ieee.single a = .fin s2 0 e2 false) (hsz : sumZ (l ++ [a]) = sumZ l) (E6 : fl6 (metV (l ++ [a])) = (fl6 (metV l) || false)) (E7 : fl7 (metV (l ++ [a])) = (fl7 (metV l) || false)) (E8 : fl8 (metV (l ++ [a])) = (fl8 (metV l) || false)) (E9 : fl9 (metV (l ++ [a])) = (fl9 (metV l) || c9)) :
    Calls Tryd.prog 60 #[.pointer (some ⟨B, 0, none⟩), .int .u32 (a : Int)] w fun e' w' => e' = .returned (.tuple #[]) ∧ SAt w' B (l ++ [a]) ∧ Fb B w w' := by
  obtain ⟨k, s, p, L, C, e, m, hS1, hS2⟩ := hS
  have HS : Hid (SFl w B l k s p L C e m) := hS1
  have HK : Hid (numOf Ieee.single a = .fin s2 0 e2 false) := hk
  have HE6 : Hid _ := E6
  have HE7 : Hid _ := E7
  have HE8 : Hid _ := E8
  have HE9 : Hid _ := E9
  have ew : IntKind.u64.wrap (a : Int) = (a : Int) := by rw [IntKind.wrap_u64]; omega
  have HLN : Hid (((l.length : Int) + 1) = ((l ++ [a]).length : Nat)) := by show ((l.length : Int) + 1) = _; rw [List.length_append, List.length_singleton]; omega
  have hb0 : ((l.length : Int) == 0) = true := by rw [h0]; rfl
  have HZ0 : Hid (sumZ l = 0) := by show sumZ l = 0; rw [h0]; rfl
  have hm6 : fl6 (metV l) = false := by rw [h0]; decide
  have hm7 : fl7 (metV l) = false := by rw [h0]; decide
  have hm8 : fl8 (metV l) = false := by rw [h0]; decide
  have hm9 : fl9 (metV l) = false := by rw [h0]; decide
  have HSZ : Hid (sumZ (l ++ [a]) = sumZ l) := hsz
  clear hsz
  clear hS1 hS2 hk h0 E6 E7 E8 E9
  go_enter Tryd.func60, Tryd.ntmps60
  go_wp2_with fail
  refine (f32_any _).mono ?_
  rintro e1 w1 ⟨rfl, q1⟩
  go_wp2_with fail
  refine (of32_any a _ ha).mono ?_
  rintro e1 w2 ⟨v, rfl, hv, q2⟩
  rw [HK.out] at hv
  obtain ⟨p2, b2, L2, C2, rfl, hnI⟩ : ∃ p2 b2 L2 C2, v = num5 2 s2 p2 L2 C2 e2 false ∧ NatIs w2 p2 b2 L2 0 := by
    obtain ⟨nv, rfl, p2, b2, L2, C2, rfl, hI⟩ := hv
    exact ⟨p2, b2, L2, C2, rfl, hI⟩
  unfold num5
  have q3 : Q w2 (w2.alloc (Obj.cells #[.int .i64 2, .bool s2, .slice p2 L2 C2, .int .i64 e2, .bool false] 43)) := (Q.refl w2).cells _ _
  have HS2 : Hid (SFl _ B l k s p L C e m) := HS.out.next ((q1.trans q2).trans q3)
  have HQ2 : Hid (Q w _) := (q1.trans q2).trans q3
  have HXn : Hid (NumAt (w2.alloc (Obj.cells #[.int .i64 2, .bool s2, .slice p2 L2 C2, .int .i64 e2, .bool false] 43)) (num5 2 s2 p2 L2 C2 e2 false) (.fin s2 0 e2 false)) := ⟨_, rfl, p2, b2, L2, C2, rfl, q3.natIs hnI⟩
  have HXb : Hid (Box5 (w2.alloc (Obj.cells #[.int .i64 2, .bool s2, .slice p2 L2 C2, .int .i64 e2, .bool false] 43)) w2.heap.size 2 s2 p2 L2 C2 e2 false) := ⟨by simp [go_sem], by simp [go_sem], by simp [go_sem], by simp [go_sem], by simp [go_sem]⟩
  have HBX : Hid (w2.heap.size ≠ B) := by
    have h1 := HS.out.h
    have h2 := (q1.trans q2).1.size
    show w2.heap.size ≠ B
    omega
  have hBX : ¬ B = w2.heap.size := fun e => HBX.out e.symm
  clear hnI
  have d5 := HS2.out.n
  have d6 := HS2.out.c6
  have d7 := HS2.out.c7
  have d8 := HS2.out.c8
  have d9 := HS2.out.c9
  have z := HS2.out.z
  have g0 := HS2.out.b.c0
  have g1 := HS2.out.b.c1
  have g2 := HS2.out.b.c2
  have g3 := HS2.out.b.c3
  have g4 := HS2.out.b.c4
  clear q1 q2 HS q3
  have x0 := HXb.out.c0
  have x1 := HXb.out.c1
  have x2 := HXb.out.c2
  have x3 := HXb.out.c3
  have x4 := HXb.out.c4
  have hyy : (w2.alloc (Obj.cells #[.int .i64 2, .bool s2, .slice p2 L2 C2, .int .i64 e2, .bool false] 43)).setCell ⟨w2.heap.size, 4, none⟩ (.bool false) = (w2.alloc (Obj.cells #[.int .i64 2, .bool s2, .slice p2 L2 C2, .int .i64 e2, .bool false] 43)) := by simp [go_sem]
  have zX : ∀ j, (w2.alloc (Obj.cells #[.int .i64 2, .bool s2, .slice p2 L2 C2, .int .i64 e2, .bool false] 43)).frozen? ⟨w2.heap.size, j, none⟩ = false := fun j => by simp [go_sem]
  obtain ⟨y, hy⟩ : ∃ y, (w2.alloc (Obj.cells #[.int .i64 2, .bool s2, .slice p2 L2 C2, .int .i64 e2, .bool false] 43)) = y := ⟨_, rfl⟩
  rw [hy] at hyy zX HS2 HQ2 HXb d5 d6 d7 d8 d9 z x0 x1 x2 x3 x4 HXn g0 g1 g2 g3 g4
  rw [hm6] at d6 HE6
  rw [hm7] at d7 HE7
  rw [hm8] at d8 HE8
  rw [hm9] at d9 HE9
  clear hm6 hm7 hm8 hm9
  (go_wp2_with fail; have hXn' : ∀ n x6 x7 x8 x9, NumAt (putS (put0 y B 2 false none 0 0 0 false) B n x6 x7 x8 x9) (num5 2 s2 p2 L2 C2 e2 false) (.fin s2 0 e2 false) := fun n x6 x7 x8 x9 => numAt_but HXn.out HS2.out.b.c0 (fun q hq => (putS_far (Or.inl hq)).trans (put0_far (Or.inl hq))); refine (zero_q _ _ _ (hXn' _ _ _ _ _)).mono ?_; rintro e2' w5 ⟨rfl, q5⟩; rw [zeroB_fin, decide_eq_true rfl]; go_wp2_with fail; exact bodyPost_end (results_none Tryd.results60 _ _ _) rfl ⟨rfl, SAt.next ⟨_, _, _, _, _, _, _, ((HS2.out.over 2 false none 0 0 0 false).put (l' := l ++ [a]) HLN.out HE6.out.symm HE7.out.symm HE8.out.symm HE9.out.symm), fun _ => (SNm.put (SNm.over HS2.out.b ⟨0, num_start _, by rw [HZ0.out]; exact Val.start⟩) (put0_box HS2.out.b).c0 HSZ.out)⟩ q5, (((HQ2.out.fb B).trans put0_fb).trans putS_fb).trans (q5.fb B)⟩)
set_option maxHeartbeats 4000000 in
set_option maxRecDepth 100000 in
theorem splus_zero (l : List Nat) (a B : Nat) (w : World) (s2 : Bool) (e2 : Int) (c9 : Bool) (hc9 : (((a : Nat) : Int) != 2147483648) = c9) (ha : a < 4294967296) (hS : SAt w B l) (h0 : l ≠ []) (hn : l.length ≤ 35184372087808) (hk : numOf Ieee.single a = .fin s2 0 e2 false) (hsz : sumZ (l ++ [a]) = sumZ l) (E6 : fl6 (metV (l ++ [a])) = (fl6 (metV l) || false)) (E7 : fl7 (metV (l ++ [a])) = (fl7 (metV l) || false)) (E8 : fl8 (metV (l ++ [a])) = (fl8 (metV l) || false)) (E9 : fl9 (metV (l ++ [a])) = (fl9 (metV l) || c9)) :
    Calls Tryd.prog 60 #[.pointer (some ⟨B, 0, none⟩), .int .u32 (a : Int)] w fun e' w' => e' = .returned (.tuple #[]) ∧ SAt w' B (l ++ [a]) ∧ Fb B w w' := by
  obtain ⟨k, s, p, L, C, e, m, hS1, hS2⟩ := hS
  have HS : Hid (SFl w B l k s p L C e m) := hS1
  have HK : Hid (numOf Ieee.single a = .fin s2 0 e2 false) := hk
  have HE6 : Hid _ := E6
  have HE7 : Hid _ := E7
  have HE8 : Hid _ := E8
  have HE9 : Hid _ := E9
  have ew : IntKind.u64.wrap (a : Int) = (a : Int) := by rw [IntKind.wrap_u64]; omega
  have HLN : Hid (((l.length : Int) + 1) = ((l ++ [a]).length : Nat)) := by show ((l.length : Int) + 1) = _; rw [List.length_append, List.length_singleton]; omega
  have HN : Hid (SNm w l k s p L C e m) := hS2 h0
  have hb0 : ((l.length : Int) == 0) = false := by
    rw [beq_eq_false_iff_ne]
    have : l.length ≠ 0 := fun g => h0 (List.eq_nil_of_length_eq_zero g)
    omega
  have HSZ : Hid (sumZ (l ++ [a]) = sumZ l) := hsz
  clear hsz
  clear hS1 hS2 hk h0 E6 E7 E8 E9
  go_enter Tryd.func60, Tryd.ntmps60
  go_wp2_with fail
  refine (f32_any _).mono ?_
  rintro e1 w1 ⟨rfl, q1⟩
  go_wp2_with fail
  refine (of32_any a _ ha).mono ?_
  rintro e1 w2 ⟨v, rfl, hv, q2⟩
  rw [HK.out] at hv
  obtain ⟨p2, b2, L2, C2, rfl, hnI⟩ : ∃ p2 b2 L2 C2, v = num5 2 s2 p2 L2 C2 e2 false ∧ NatIs w2 p2 b2 L2 0 := by
    obtain ⟨nv, rfl, p2, b2, L2, C2, rfl, hI⟩ := hv
    exact ⟨p2, b2, L2, C2, rfl, hI⟩
  unfold num5
  have q3 : Q w2 (w2.alloc (Obj.cells #[.int .i64 2, .bool s2, .slice p2 L2 C2, .int .i64 e2, .bool false] 43)) := (Q.refl w2).cells _ _
  have HS2 : Hid (SFl _ B l k s p L C e m) := HS.out.next ((q1.trans q2).trans q3)
  have HQ2 : Hid (Q w _) := (q1.trans q2).trans q3
  have HN2 : Hid (SNm _ l k s p L C e m) := HN.out.next ((q1.trans q2).trans q3)
  have HXn : Hid (NumAt (w2.alloc (Obj.cells #[.int .i64 2, .bool s2, .slice p2 L2 C2, .int .i64 e2, .bool false] 43)) (num5 2 s2 p2 L2 C2 e2 false) (.fin s2 0 e2 false)) := ⟨_, rfl, p2, b2, L2, C2, rfl, q3.natIs hnI⟩
  have HXb : Hid (Box5 (w2.alloc (Obj.cells #[.int .i64 2, .bool s2, .slice p2 L2 C2, .int .i64 e2, .bool false] 43)) w2.heap.size 2 s2 p2 L2 C2 e2 false) := ⟨by simp [go_sem], by simp [go_sem], by simp [go_sem], by simp [go_sem], by simp [go_sem]⟩
  have HBX : Hid (w2.heap.size ≠ B) := by
    have h1 := HS.out.h
    have h2 := (q1.trans q2).1.size
    show w2.heap.size ≠ B
    omega
  have hBX : ¬ B = w2.heap.size := fun e => HBX.out e.symm
  clear hnI
  have d5 := HS2.out.n
  have d6 := HS2.out.c6
  have d7 := HS2.out.c7
  have d8 := HS2.out.c8
  have d9 := HS2.out.c9
  have z := HS2.out.z
  clear q1 q2 HS q3 HN
  have x0 := HXb.out.c0
  have x1 := HXb.out.c1
  have x2 := HXb.out.c2
  have x3 := HXb.out.c3
  have x4 := HXb.out.c4
  have hyy : (w2.alloc (Obj.cells #[.int .i64 2, .bool s2, .slice p2 L2 C2, .int .i64 e2, .bool false] 43)).setCell ⟨w2.heap.size, 4, none⟩ (.bool false) = (w2.alloc (Obj.cells #[.int .i64 2, .bool s2, .slice p2 L2 C2, .int .i64 e2, .bool false] 43)) := by simp [go_sem]
  have zX : ∀ j, (w2.alloc (Obj.cells #[.int .i64 2, .bool s2, .slice p2 L2 C2, .int .i64 e2, .bool false] 43)).frozen? ⟨w2.heap.size, j, none⟩ = false := fun j => by simp [go_sem]
  obtain ⟨y, hy⟩ : ∃ y, (w2.alloc (Obj.cells #[.int .i64 2, .bool s2, .slice p2 L2 C2, .int .i64 e2, .bool false] 43)) = y := ⟨_, rfl⟩
  rw [hy] at hyy zX HS2 HQ2 HXb d5 d6 d7 d8 d9 z x0 x1 x2 x3 x4 HN2 HXn
  generalize fl6 (metV l) = b6 at *
  generalize fl7 (metV l) = b7 at *
  generalize fl8 (metV l) = b8 at *
  generalize fl9 (metV l) = b9 at *
  cases b6 <;> cases b7 <;> cases b8 <;> cases b9
  all_goals (go_wp2_with fail; have hXn' : ∀ n x6 x7 x8 x9, NumAt (putS y B n x6 x7 x8 x9) (num5 2 s2 p2 L2 C2 e2 false) (.fin s2 0 e2 false) := fun n x6 x7 x8 x9 => numAt_but HXn.out HS2.out.b.c0 (fun q hq => putS_far (Or.inl hq)); refine (zero_q _ _ _ (hXn' _ _ _ _ _)).mono ?_; rintro e2' w5 ⟨rfl, q5⟩; rw [zeroB_fin, decide_eq_true rfl]; go_wp2_with fail; exact bodyPost_end (results_none Tryd.results60 _ _ _) rfl ⟨rfl, SAt.next ⟨_, _, _, _, _, _, _, (HS2.out.put (l' := l ++ [a]) HLN.out HE6.out.symm HE7.out.symm HE8.out.symm HE9.out.symm), fun _ => (HN2.out.put HS2.out.b.c0 HSZ.out)⟩ q5, ((HQ2.out.fb B).trans putS_fb).trans (q5.fb B)⟩)
end Go.Proofs.YtmgpaheobhfioaaDoor
/- The document's exact sums: one sample more, a number. -/
namespace Go.Proofs.YtmgpaheobhfioaaDoor
open Go.RowKit
set_option linter.unusedVariables false
set_option linter.unusedSimpArgs false

set_option maxHeartbeats 4000000 in
set_option maxRecDepth 100000 in
theorem splus_fin0 (l : List Nat) (a B : Nat) (w : World) (s2 : Bool) (e2 : Int) (n2 : Nat) (hn2 : n2 ≠ 0) (y2 : Int) (hV : Val s2 n2 e2 y2) (hy2 : sumZ (l ++ [a]) = sumZ l + y2) (hzl : 2 * (sumZ l).natAbs < m64 ^ 5) (hzy : 2 * y2.natAbs < m64 ^ 5) (ha : a < 4294967296) (hS : SAt w B l) (h0 : l = []) (hn : l.length ≤ 35184372087808) (hk : numOf Ieee.single a = .fin s2 n2 e2 false) (hne : a ≠ 2147483648) (E6 : fl6 (metV (l ++ [a])) = (fl6 (metV l) || false)) (E7 : fl7 (metV (l ++ [a])) = (fl7 (metV l) || false)) (E8 : fl8 (metV (l ++ [a])) = (fl8 (metV l) || false)) (E9 : fl9 (metV (l ++ [a])) = (fl9 (metV l) || true)) :
    Calls Tryd.prog 60 #[.pointer (some ⟨B, 0, none⟩), .int .u32 (a : Int)] w fun e' w' => e' = .returned (.tuple #[]) ∧ SAt w' B (l ++ [a]) ∧ Fb B w w' := by
  obtain ⟨k, s, p, L, C, e, m, hS1, hS2⟩ := hS
  have HS : Hid (SFl w B l k s p L C e m) := hS1
  have HK : Hid (numOf Ieee.single a = .fin s2 n2 e2 false) := hk
  have HE6 : Hid _ := E6
  have HE7 : Hid _ := E7
  have HE8 : Hid _ := E8
  have HE9 : Hid _ := E9
  have ew : IntKind.u64.wrap (a : Int) = (a : Int) := by rw [IntKind.wrap_u64]; omega
  have HLN : Hid (((l.length : Int) + 1) = ((l ++ [a]).length : Nat)) := by show ((l.length : Int) + 1) = _; rw [List.length_append, List.length_singleton]; omega
  have hb9 : ((a : Int) != 2147483648) = true := by rw [bne_iff_ne]; omega
  have hb0 : ((l.length : Int) == 0) = true := by rw [h0]; rfl
  have HZ0 : Hid (sumZ l = 0) := by show sumZ l = 0; rw [h0]; rfl
  have hm6 : fl6 (metV l) = false := by rw [h0]; decide
  have hm7 : fl7 (metV l) = false := by rw [h0]; decide
  have hm8 : fl8 (metV l) = false := by rw [h0]; decide
  have hm9 : fl9 (metV l) = false := by rw [h0]; decide
  have HVv : Hid (Val s2 n2 e2 y2) := hV
  have HY : Hid (sumZ (l ++ [a]) = sumZ l + y2) := hy2
  have HZL : Hid (2 * (sumZ l).natAbs < m64 ^ 5) := hzl
  have HZY : Hid (2 * y2.natAbs < m64 ^ 5) := hzy
  clear hV hy2 hzl hzy
  clear hS1 hS2 hk h0 E6 E7 E8 E9 hne
  go_enter Tryd.func60, Tryd.ntmps60
  go_wp2_with fail
  refine (f32_any _).mono ?_
  rintro e1 w1 ⟨rfl, q1⟩
  go_wp2_with fail
  refine (of32_any a _ ha).mono ?_
  rintro e1 w2 ⟨v, rfl, hv, q2⟩
  rw [HK.out] at hv
  obtain ⟨p2, b2, L2, C2, rfl, hnI⟩ : ∃ p2 b2 L2 C2, v = num5 2 s2 p2 L2 C2 e2 false ∧ NatIs w2 p2 b2 L2 n2 := by
    obtain ⟨nv, rfl, p2, b2, L2, C2, rfl, hI⟩ := hv
    exact ⟨p2, b2, L2, C2, rfl, hI⟩
  unfold num5
  have q3 : Q w2 (w2.alloc (Obj.cells #[.int .i64 2, .bool s2, .slice p2 L2 C2, .int .i64 e2, .bool false] 43)) := (Q.refl w2).cells _ _
  have HS2 : Hid (SFl _ B l k s p L C e m) := HS.out.next ((q1.trans q2).trans q3)
  have HQ2 : Hid (Q w _) := (q1.trans q2).trans q3
  have HXn : Hid (NumAt (w2.alloc (Obj.cells #[.int .i64 2, .bool s2, .slice p2 L2 C2, .int .i64 e2, .bool false] 43)) (num5 2 s2 p2 L2 C2 e2 false) (.fin s2 n2 e2 false)) := ⟨_, rfl, p2, b2, L2, C2, rfl, q3.natIs hnI⟩
  have HXb : Hid (Box5 (w2.alloc (Obj.cells #[.int .i64 2, .bool s2, .slice p2 L2 C2, .int .i64 e2, .bool false] 43)) w2.heap.size 2 s2 p2 L2 C2 e2 false) := ⟨by simp [go_sem], by simp [go_sem], by simp [go_sem], by simp [go_sem], by simp [go_sem]⟩
  have HBX : Hid (w2.heap.size ≠ B) := by
    have h1 := HS.out.h
    have h2 := (q1.trans q2).1.size
    show w2.heap.size ≠ B
    omega
  have hBX : ¬ B = w2.heap.size := fun e => HBX.out e.symm
  clear hnI
  have d5 := HS2.out.n
  have d6 := HS2.out.c6
  have d7 := HS2.out.c7
  have d8 := HS2.out.c8
  have d9 := HS2.out.c9
  have z := HS2.out.z
  have g0 := HS2.out.b.c0
  have g1 := HS2.out.b.c1
  have g2 := HS2.out.b.c2
  have g3 := HS2.out.b.c3
  have g4 := HS2.out.b.c4
  clear q1 q2 HS q3
  have x0 := HXb.out.c0
  have x1 := HXb.out.c1
  have x2 := HXb.out.c2
  have x3 := HXb.out.c3
  have x4 := HXb.out.c4
  have hyy : (w2.alloc (Obj.cells #[.int .i64 2, .bool s2, .slice p2 L2 C2, .int .i64 e2, .bool false] 43)).setCell ⟨w2.heap.size, 4, none⟩ (.bool false) = (w2.alloc (Obj.cells #[.int .i64 2, .bool s2, .slice p2 L2 C2, .int .i64 e2, .bool false] 43)) := by simp [go_sem]
  have zX : ∀ j, (w2.alloc (Obj.cells #[.int .i64 2, .bool s2, .slice p2 L2 C2, .int .i64 e2, .bool false] 43)).frozen? ⟨w2.heap.size, j, none⟩ = false := fun j => by simp [go_sem]
  obtain ⟨y, hy⟩ : ∃ y, (w2.alloc (Obj.cells #[.int .i64 2, .bool s2, .slice p2 L2 C2, .int .i64 e2, .bool false] 43)) = y := ⟨_, rfl⟩
  rw [hy] at hyy zX HS2 HQ2 HXb d5 d6 d7 d8 d9 z x0 x1 x2 x3 x4 HXn g0 g1 g2 g3 g4
  rw [hm6] at d6 HE6
  rw [hm7] at d7 HE7
  rw [hm8] at d8 HE8
  rw [hm9] at d9 HE9
  clear hm6 hm7 hm8 hm9
  (go_wp2_with fail; have hXn' : ∀ n x6 x7 x8 x9, NumAt (putS (put0 y B 2 false none 0 0 0 false) B n x6 x7 x8 x9) (num5 2 s2 p2 L2 C2 e2 false) (.fin s2 n2 e2 false) := fun n x6 x7 x8 x9 => numAt_but HXn.out HS2.out.b.c0 (fun q hq => (putS_far (Or.inl hq)).trans (put0_far (Or.inl hq))); refine (zero_q _ _ _ (hXn' _ _ _ _ _)).mono ?_; rintro e2' w5 ⟨rfl, q5⟩; rw [zeroB_fin, decide_eq_false hn2]; have hS5 := SFl.next ((HS2.out.over 2 false none 0 0 0 false).put (l' := l ++ [a]) HLN.out HE6.out.symm HE7.out.symm HE8.out.symm HE9.out.symm) q5; obtain ⟨n1, hn1, hv1⟩ := SNm.next (SNm.put (l' := l) (SNm.over HS2.out.b (l := l) ⟨0, num_start _, by rw [HZ0.out]; exact Val.start⟩) (put0_box HS2.out.b).c0 rfl) q5; obtain ⟨u, kk, bb, hpr, hvv⟩ := hv1.plus HVv.out; have HX5 : Hid (Box5 w5 w2.heap.size 2 s2 p2 L2 C2 e2 false) := ⟨q5.cell (((putS_far (Or.inl HBX.out)).trans (put0_far (Or.inl HBX.out))).trans HXb.out.c0), q5.cell (((putS_far (Or.inl HBX.out)).trans (put0_far (Or.inl HBX.out))).trans HXb.out.c1), q5.cell (((putS_far (Or.inl HBX.out)).trans (put0_far (Or.inl HBX.out))).trans HXb.out.c2), q5.cell (((putS_far (Or.inl HBX.out)).trans (put0_far (Or.inl HBX.out))).trans HXb.out.c3), q5.cell (((putS_far (Or.inl HBX.out)).trans (put0_far (Or.inl HBX.out))).trans HXb.out.c4)⟩; have HS5 : Hid _ := hS5; have HN1 : Hid _ := hn1; have HV1 : Hid _ := hv1; have HPR : Hid _ := hpr; have HVV : Hid _ := hvv; have HXN : Hid (NumAt w5 (num5 2 s2 p2 L2 C2 e2 false) (.fin s2 n2 e2 false)) := q5.num (hXn' _ _ _ _ _); have HF5 : Hid (Fb B w w5) := (((HQ2.out.fb B).trans put0_fb).trans putS_fb).trans (q5.fb B); clear hS5 hn1 hv1 hpr hvv q5 hXn'; go_wp2_with fail; refine regionP9 (R1 := .fin _ n1 _ false) (R2 := .fin s2 n2 e2 false) rfl rfl ⟨rfl, rfl, HS5.out.b, HX5.out, HN1.out, HXN.out, HV1.out.small HZL.out, HVv.out.small HZY.out, HS5.out.z⟩ ?_; intro a9 x9 k' s' p' L' C' e' m' q9 df hNum; rw [HPR.out] at hNum; have HR : Hid (SAt (put0 x9 B k' s' p' L' C' e' m') B (l ++ [a])) := SAt.over (HS5.out.next q9) hNum (by rw [HY.out]; exact HVV.out); have HF9 : Hid (Fb B w (put0 x9 B k' s' p' L' C' e' m')) := (HF5.out.trans (q9.fb B)).trans put0_fb; go_wp2_with fail; exact bodyPost_end (results_none Tryd.results60 _ _ _) df ⟨rfl, HR.out, HF9.out⟩)
set_option maxHeartbeats 4000000 in
set_option maxRecDepth 100000 in
theorem splus_fin (l : List Nat) (a B : Nat) (w : World) (s2 : Bool) (e2 : Int) (n2 : Nat) (hn2 : n2 ≠ 0) (y2 : Int) (hV : Val s2 n2 e2 y2) (hy2 : sumZ (l ++ [a]) = sumZ l + y2) (hzl : 2 * (sumZ l).natAbs < m64 ^ 5) (hzy : 2 * y2.natAbs < m64 ^ 5) (ha : a < 4294967296) (hS : SAt w B l) (h0 : l ≠ []) (hn : l.length ≤ 35184372087808) (hk : numOf Ieee.single a = .fin s2 n2 e2 false) (hne : a ≠ 2147483648) (E6 : fl6 (metV (l ++ [a])) = (fl6 (metV l) || false)) (E7 : fl7 (metV (l ++ [a])) = (fl7 (metV l) || false)) (E8 : fl8 (metV (l ++ [a])) = (fl8 (metV l) || false)) (E9 : fl9 (metV (l ++ [a])) = (fl9 (metV l) || true)) :
    Calls Tryd.prog 60 #[.pointer (some ⟨B, 0, none⟩), .int .u32 (a : Int)] w fun e' w' => e' = .returned (.tuple #[]) ∧ SAt w' B (l ++ [a]) ∧ Fb B w w' := by
  obtain ⟨k, s, p, L, C, e, m, hS1, hS2⟩ := hS
  have HS : Hid (SFl w B l k s p L C e m) := hS1
  have HK : Hid (numOf Ieee.single a = .fin s2 n2 e2 false) := hk
  have HE6 : Hid _ := E6
  have HE7 : Hid _ := E7
  have HE8 : Hid _ := E8
  have HE9 : Hid _ := E9
  have ew : IntKind.u64.wrap (a : Int) = (a : Int) := by rw [IntKind.wrap_u64]; omega
  have HLN : Hid (((l.length : Int) + 1) = ((l ++ [a]).length : Nat)) := by show ((l.length : Int) + 1) = _; rw [List.length_append, List.length_singleton]; omega
  have hb9 : ((a : Int) != 2147483648) = true := by rw [bne_iff_ne]; omega
  have HN : Hid (SNm w l k s p L C e m) := hS2 h0
  have hb0 : ((l.length : Int) == 0) = false := by
    rw [beq_eq_false_iff_ne]
    have : l.length ≠ 0 := fun g => h0 (List.eq_nil_of_length_eq_zero g)
    omega
  have HVv : Hid (Val s2 n2 e2 y2) := hV
  have HY : Hid (sumZ (l ++ [a]) = sumZ l + y2) := hy2
  have HZL : Hid (2 * (sumZ l).natAbs < m64 ^ 5) := hzl
  have HZY : Hid (2 * y2.natAbs < m64 ^ 5) := hzy
  clear hV hy2 hzl hzy
  clear hS1 hS2 hk h0 E6 E7 E8 E9 hne
  go_enter Tryd.func60, Tryd.ntmps60
  go_wp2_with fail
  refine (f32_any _).mono ?_
  rintro e1 w1 ⟨rfl, q1⟩
  go_wp2_with fail
  refine (of32_any a _ ha).mono ?_
  rintro e1 w2 ⟨v, rfl, hv, q2⟩
  rw [HK.out] at hv
  obtain ⟨p2, b2, L2, C2, rfl, hnI⟩ : ∃ p2 b2 L2 C2, v = num5 2 s2 p2 L2 C2 e2 false ∧ NatIs w2 p2 b2 L2 n2 := by
    obtain ⟨nv, rfl, p2, b2, L2, C2, rfl, hI⟩ := hv
    exact ⟨p2, b2, L2, C2, rfl, hI⟩
  unfold num5
  have q3 : Q w2 (w2.alloc (Obj.cells #[.int .i64 2, .bool s2, .slice p2 L2 C2, .int .i64 e2, .bool false] 43)) := (Q.refl w2).cells _ _
  have HS2 : Hid (SFl _ B l k s p L C e m) := HS.out.next ((q1.trans q2).trans q3)
  have HQ2 : Hid (Q w _) := (q1.trans q2).trans q3
  have HN2 : Hid (SNm _ l k s p L C e m) := HN.out.next ((q1.trans q2).trans q3)
  have HXn : Hid (NumAt (w2.alloc (Obj.cells #[.int .i64 2, .bool s2, .slice p2 L2 C2, .int .i64 e2, .bool false] 43)) (num5 2 s2 p2 L2 C2 e2 false) (.fin s2 n2 e2 false)) := ⟨_, rfl, p2, b2, L2, C2, rfl, q3.natIs hnI⟩
  have HXb : Hid (Box5 (w2.alloc (Obj.cells #[.int .i64 2, .bool s2, .slice p2 L2 C2, .int .i64 e2, .bool false] 43)) w2.heap.size 2 s2 p2 L2 C2 e2 false) := ⟨by simp [go_sem], by simp [go_sem], by simp [go_sem], by simp [go_sem], by simp [go_sem]⟩
  have HBX : Hid (w2.heap.size ≠ B) := by
    have h1 := HS.out.h
    have h2 := (q1.trans q2).1.size
    show w2.heap.size ≠ B
    omega
  have hBX : ¬ B = w2.heap.size := fun e => HBX.out e.symm
  clear hnI
  have d5 := HS2.out.n
  have d6 := HS2.out.c6
  have d7 := HS2.out.c7
  have d8 := HS2.out.c8
  have d9 := HS2.out.c9
  have z := HS2.out.z
  clear q1 q2 HS q3 HN
  have x0 := HXb.out.c0
  have x1 := HXb.out.c1
  have x2 := HXb.out.c2
  have x3 := HXb.out.c3
  have x4 := HXb.out.c4
  have hyy : (w2.alloc (Obj.cells #[.int .i64 2, .bool s2, .slice p2 L2 C2, .int .i64 e2, .bool false] 43)).setCell ⟨w2.heap.size, 4, none⟩ (.bool false) = (w2.alloc (Obj.cells #[.int .i64 2, .bool s2, .slice p2 L2 C2, .int .i64 e2, .bool false] 43)) := by simp [go_sem]
  have zX : ∀ j, (w2.alloc (Obj.cells #[.int .i64 2, .bool s2, .slice p2 L2 C2, .int .i64 e2, .bool false] 43)).frozen? ⟨w2.heap.size, j, none⟩ = false := fun j => by simp [go_sem]
  obtain ⟨y, hy⟩ : ∃ y, (w2.alloc (Obj.cells #[.int .i64 2, .bool s2, .slice p2 L2 C2, .int .i64 e2, .bool false] 43)) = y := ⟨_, rfl⟩
  rw [hy] at hyy zX HS2 HQ2 HXb d5 d6 d7 d8 d9 z x0 x1 x2 x3 x4 HN2 HXn
  generalize fl6 (metV l) = b6 at *
  generalize fl7 (metV l) = b7 at *
  generalize fl8 (metV l) = b8 at *
  generalize fl9 (metV l) = b9 at *
  cases b6 <;> cases b7 <;> cases b8 <;> cases b9
  all_goals (go_wp2_with fail; have hXn' : ∀ n x6 x7 x8 x9, NumAt (putS y B n x6 x7 x8 x9) (num5 2 s2 p2 L2 C2 e2 false) (.fin s2 n2 e2 false) := fun n x6 x7 x8 x9 => numAt_but HXn.out HS2.out.b.c0 (fun q hq => putS_far (Or.inl hq)); refine (zero_q _ _ _ (hXn' _ _ _ _ _)).mono ?_; rintro e2' w5 ⟨rfl, q5⟩; rw [zeroB_fin, decide_eq_false hn2]; have hS5 := SFl.next (HS2.out.put (l' := l ++ [a]) HLN.out HE6.out.symm HE7.out.symm HE8.out.symm HE9.out.symm) q5; obtain ⟨n1, hn1, hv1⟩ := SNm.next (SNm.put (l' := l) HN2.out HS2.out.b.c0 rfl) q5; obtain ⟨u, kk, bb, hpr, hvv⟩ := hv1.plus HVv.out; have HX5 : Hid (Box5 w5 w2.heap.size 2 s2 p2 L2 C2 e2 false) := ⟨q5.cell ((putS_far (Or.inl HBX.out)).trans HXb.out.c0), q5.cell ((putS_far (Or.inl HBX.out)).trans HXb.out.c1), q5.cell ((putS_far (Or.inl HBX.out)).trans HXb.out.c2), q5.cell ((putS_far (Or.inl HBX.out)).trans HXb.out.c3), q5.cell ((putS_far (Or.inl HBX.out)).trans HXb.out.c4)⟩; have HS5 : Hid _ := hS5; have HN1 : Hid _ := hn1; have HV1 : Hid _ := hv1; have HPR : Hid _ := hpr; have HVV : Hid _ := hvv; have HXN : Hid (NumAt w5 (num5 2 s2 p2 L2 C2 e2 false) (.fin s2 n2 e2 false)) := q5.num (hXn' _ _ _ _ _); have HF5 : Hid (Fb B w w5) := ((HQ2.out.fb B).trans putS_fb).trans (q5.fb B); clear hS5 hn1 hv1 hpr hvv q5 hXn'; go_wp2_with fail; refine regionP9 (R1 := .fin _ n1 _ false) (R2 := .fin s2 n2 e2 false) rfl rfl ⟨rfl, rfl, HS5.out.b, HX5.out, HN1.out, HXN.out, HV1.out.small HZL.out, HVv.out.small HZY.out, HS5.out.z⟩ ?_; intro a9 x9 k' s' p' L' C' e' m' q9 df hNum; rw [HPR.out] at hNum; have HR : Hid (SAt (put0 x9 B k' s' p' L' C' e' m') B (l ++ [a])) := SAt.over (HS5.out.next q9) hNum (by rw [HY.out]; exact HVV.out); have HF9 : Hid (Fb B w (put0 x9 B k' s' p' L' C' e' m')) := (HF5.out.trans (q9.fb B)).trans put0_fb; go_wp2_with fail; exact bodyPost_end (results_none Tryd.results60 _ _ _) df ⟨rfl, HR.out, HF9.out⟩)
end Go.Proofs.YtmgpaheobhfioaaDoor
/- The document's exact sums: of lists. -/
namespace Go.Proofs.YtmgpaheobhfioaaDoor
open Go.RowKit
set_option linter.unusedVariables false
set_option linter.unusedSimpArgs false

theorem splus_any (l : List Nat) (a B : Nat) (w : World) (ha : a < 4294967296) (hS : SAt w B l) (hn : l.length ≤ 1000000) (hb : ∀ s ∈ l, s < 4294967296) :
    Calls Tryd.prog 60 #[.pointer (some ⟨B, 0, none⟩), .int .u32 (a : Int)] w fun e' w' => e' = .returned (.tuple #[]) ∧ SAt w' B (l ++ [a]) ∧ Fb B w w' := by
  have hz := sumZ_fits hb (by omega)
  have hm := metV_lt l
  have hsn := sumZ_snoc l a
  have hmn := metV_snoc l a
  rcases kind_cases a ha with ⟨h1, h2, h3⟩ | ⟨h1, h2, h3⟩ | ⟨h1, h2, h3⟩ | ⟨h1, h2, h3⟩ | ⟨h1, h2, h3⟩
  · have u := fl_upd _ hm 16 (by decide)
    rw [h1] at hmn
    rw [← hmn] at u
    have e : sumZ (l ++ [a]) = sumZ l := by rw [hsn, unK_odd (by rw [h1]; decide), Int.add_zero]
    by_cases h0 : l = []
    · exact splus_nan0 l a B w ha hS h0 (by omega) h2 h3 e u.1 u.2.1 u.2.2.1 u.2.2.2
    · exact splus_nan l a B w ha hS h0 (by omega) h2 h3 e u.1 u.2.1 u.2.2.1 u.2.2.2
  · have u := fl_upd _ hm 4 (by decide)
    rw [h1] at hmn
    rw [← hmn] at u
    have e : sumZ (l ++ [a]) = sumZ l := by rw [hsn, unK_odd (by rw [h1]; decide), Int.add_zero]
    by_cases h0 : l = []
    · exact splus_pinf0 l a B w ha hS h0 (by omega) h2 h3 e u.1 u.2.1 u.2.2.1 u.2.2.2
    · exact splus_pinf l a B w ha hS h0 (by omega) h2 h3 e u.1 u.2.1 u.2.2.1 u.2.2.2
  · have u := fl_upd _ hm 8 (by decide)
    rw [h1] at hmn
    rw [← hmn] at u
    have e : sumZ (l ++ [a]) = sumZ l := by rw [hsn, unK_odd (by rw [h1]; decide), Int.add_zero]
    by_cases h0 : l = []
    · exact splus_minf0 l a B w ha hS h0 (by omega) h2 h3 e u.1 u.2.1 u.2.2.1 u.2.2.2
    · exact splus_minf l a B w ha hS h0 (by omega) h2 h3 e u.1 u.2.1 u.2.2.1 u.2.2.2
  · have u := fl_upd _ hm 1 (by decide)
    rw [h1] at hmn
    rw [← hmn] at u
    have e : sumZ (l ++ [a]) = sumZ l := by rw [hsn, unK_odd (by rw [h1]; decide), Int.add_zero]
    have hc9 : (((a : Nat) : Int) != 2147483648) = false := by rw [h3]; rfl
    by_cases h0 : l = []
    · exact splus_zero0 l a B w true (-149) false hc9 ha hS h0 (by omega) h2 e u.1 u.2.1 u.2.2.1 u.2.2.2
    · exact splus_zero l a B w true (-149) false hc9 ha hS h0 (by omega) h2 e u.1 u.2.1 u.2.2.1 u.2.2.2
  · have u := fl_upd _ hm 2 (by decide)
    have hfin := kind_fin ha h1
    have hV := Val.sample ha hfin
    have hk : unK a = unZ a := unK_fin h1
    rw [h1] at hmn
    rw [← hmn] at u
    rw [hk] at hsn
    by_cases hs0 : szS a = 0
    · have e : sumZ (l ++ [a]) = sumZ l := by
        rw [hsn, hV.zero.1 hs0, Int.add_zero]
      have hc9 : (((a : Nat) : Int) != 2147483648) = true := by rw [bne_iff_ne]; omega
      rw [hs0] at h2
      by_cases h0 : l = []
      · exact splus_zero0 l a B w _ _ true hc9 ha hS h0 (by omega) h2 e u.1 u.2.1 u.2.2.1 u.2.2.2
      · exact splus_zero l a B w _ _ true hc9 ha hS h0 (by omega) h2 e u.1 u.2.1 u.2.2.1 u.2.2.2
    · have hy : 2 * (unZ a).natAbs < m64 ^ 5 := by
        have h4 := unZ_le hfin
        have h5 := cap_m (n := 1) (by decide)
        rw [Nat.one_mul] at h5
        omega
      by_cases h0 : l = []
      · exact splus_fin0 l a B w _ _ _ hs0 _ hV hsn hz hy ha hS h0 (by omega) h2 h3 u.1 u.2.1 u.2.2.1 u.2.2.2
      · exact splus_fin l a B w _ _ _ hs0 _ hV hsn hz hy ha hS h0 (by omega) h2 h3 u.1 u.2.1 u.2.2.1 u.2.2.2
theorem sat_nil (w : World) : SAt (w.alloc (.cells #[.int .i64 0, .bool false, .slice none 0 0, .int .i64 0, .bool false, .int .i64 0, .bool false, .bool false, .bool false, .bool false] 98)) w.heap.size [] :=
  ⟨0, false, none, 0, 0, 0, false, ⟨⟨by simp [go_sem], by simp [go_sem], by simp [go_sem], by simp [go_sem], by simp [go_sem]⟩, by simp [go_sem], by simp [go_sem]; decide, by simp [go_sem]; decide, by simp [go_sem]; decide, by simp [go_sem]; decide, fun j => by simp [go_sem], by simp [go_sem]⟩, fun h => absurd rfl h⟩
set_option maxHeartbeats 2000000 in
theorem sof_any (v : Value) (S : List Nat) (w : World) (hv : USl w v S) (hn : S.length ≤ 1000000) (hb : ∀ i, S.getD i 0 < 4294967296) :
    Calls Tryd.prog 37 #[v] w fun e w' => e = .returned (.pointer (some ⟨w.heap.size, 0, none⟩)) ∧ SAt w' w.heap.size S ∧ Q w w' := by
  obtain ⟨a, c, rfl⟩ := hv.form
  have HV : Hid (USl w (.slice a S.length c) S) := hv
  have HB : Hid (∀ i, S.getD i 0 < 4294967296) := hb
  clear hv hb
  go_enter Tryd.func37, Tryd.ntmps37
  go_wp2_with fail
  have HS : Hid (SAt _ w.heap.size []) := sat_nil w
  have HQ : Hid (Q w (w.alloc (.cells #[.int .i64 0, .bool false, .slice none 0 0, .int .i64 0, .bool false, .int .i64 0, .bool false, .bool false, .bool false, .bool false] 98))) := (Q.refl w).cells _ _
  generalize w.alloc (.cells #[.int .i64 0, .bool false, .slice none 0 0, .int .i64 0, .bool false, .int .i64 0, .bool false, .bool false, .bool false, .bool false] 98) = y at *
  go_loopg [4] (S.length) (fun gh s4 wr => ∃ i : Nat, s4 = .int .i64 (i : Int) ∧ i ≤ S.length ∧ gh = S.length - i ∧ Hid (SAt wr w.heap.size (S.take i)) ∧ Hid (Q w wr))
  case atStart => exact ⟨0, rfl, by omega, rfl, HS.out, HQ.out⟩
  case round =>
    obtain ⟨i, rfl, hi, rfl, HR, HQr⟩ := hrel
    by_cases hlt : i < S.length
    · obtain ⟨g, o, cap', hsl, hcap, hI⟩ := HV.out.some (by omega)
      injection hsl with hs1 hs2 hs3
      subst hs1 hs3
      clear hs2
      have hc := HQr.out.cell (hI i hlt)
      have hx := HB.out i
      have HT : Hid (S.take (i + 1) = S.take i ++ [S.getD i 0]) := take_snoc hlt
      have HL : Hid ((S.take i).length ≤ 1000000) := by show (S.take i).length ≤ 1000000; rw [List.length_take]; omega
      have HM : Hid (∀ s ∈ S.take i, s < 4294967296) := fun s hs => by
        obtain ⟨j, hj, rfl⟩ := List.getElem_of_mem (List.mem_of_mem_take hs)
        have := HB.out j
        rw [List.getD_eq_getElem?_getD, List.getElem?_eq_getElem hj] at this
        exact this
      generalize S.getD i 0 = x at *
      clear hI
      go_wp2_with fail
      refine (splus_any (S.take i) x w.heap.size _ hx HR.out HL.out HM.out).mono ?_
      rintro e w1 ⟨rfl, h1, h2⟩
      have HR1 : Hid (SAt w1 w.heap.size (S.take (i + 1))) := by
        show SAt w1 w.heap.size (S.take (i + 1))
        rw [HT.out]; exact h1
      have HQ1 : Hid (Q w w1) := h2.q HQr.out (Nat.le_refl _)
      clear h1 h2 hc
      go_wp2_with fail
      go_roundg (S.length - (i + 1))
      case measure => go_light; omega
      case rel => go_light; exact ⟨i + 1, by simp, by omega, rfl, HR1, HQ1⟩
    · obtain rfl : i = S.length := by omega
      have hge : ¬ (S.length : Int) < (S.length : Int) := by omega
      have HR1 : Hid (SAt wr w.heap.size S) := by
        have := HR.out
        rw [List.take_of_length_le (Nat.le_refl _)] at this
        exact this
      clear HR
      go_wp2_with fail
      go_ret
      exact ⟨rfl, HR1.out, HQr.out⟩
end Go.Proofs.YtmgpaheobhfioaaDoor
