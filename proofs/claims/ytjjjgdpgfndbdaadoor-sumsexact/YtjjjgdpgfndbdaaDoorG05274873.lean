/- The document's exact sums: one sample more, no number. -/
import Derived.Test.YtjjjgdpgfndbdaaDoorGa93c4d7e
namespace Go.Proofs.YtjjjgdpgfndbdaaDoor
open Go.RowKit
set_option linter.unusedVariables false
set_option linter.unusedSimpArgs false

set_option maxHeartbeats 4000000 in
set_option maxRecDepth 100000 in
theorem splus_nan0 (l : List Nat) (a B : Nat) (w : World) (ha : a < 4294967296) (hS : SAt w B l) (h0 : l = []) (hn : l.length ≤ 35184372087808) (hk : numOf Ieee.single a = .nan) (hne : a ≠ 2147483648) (hsz : sumZ (l ++ [a]) = sumZ l) (E6 : fl6 (metV (l ++ [a])) = (fl6 (metV l) || true)) (E7 : fl7 (metV (l ++ [a])) = (fl7 (metV l) || false)) (E8 : fl8 (metV (l ++ [a])) = (fl8 (metV l) || false)) (E9 : fl9 (metV (l ++ [a])) = (fl9 (metV l) || true)) :
    Calls Tryd.prog 73 #[.pointer (some ⟨B, 0, none⟩), .int .u32 (a : Int)] w fun e' w' => e' = .returned (.tuple #[]) ∧ SAt w' B (l ++ [a]) ∧ Fb B w w' := by
  obtain ⟨k, s, p, L, C, e, m, hS1, hS2⟩ := hS
  have HS : Hid (SFl w B l k s p L C e m) := hS1
  have HK : Hid (numOf Ieee.single a = .nan) := hk
  have HE6 : Hid _ := E6
  have HE7 : Hid _ := E7
  have HE8 : Hid _ := E8
  have HE9 : Hid _ := E9
  have ew : IntKind.u64.wrap (a : Int) = (a : Int) := by rw [IntKind.wrap_u64]; omega
  have HLN : Hid (((l.length : Int) + 1) = ((l ++ [a]).length : Nat)) := by show ((l.length : Int) + 1) = _; rw [List.length_append, List.length_singleton]; omega
  have hb9 : ((a : Int) != 2147483648) = true := by rw [bne_iff_ne]; omega
  have hb0 : ((l.length : Int) == 0) = true := by rw [h0]; rfl
  have HZ0 : Hid (sumZ l = 0) := by show sumZ l = 0; rw [h0]; rfl
  have hm6 : fl6 (metV l) = false := by rw [h0]; decide
  have hm7 : fl7 (metV l) = false := by rw [h0]; decide
  have hm8 : fl8 (metV l) = false := by rw [h0]; decide
  have hm9 : fl9 (metV l) = false := by rw [h0]; decide
  have HSZ : Hid (sumZ (l ++ [a]) = sumZ l) := hsz
  clear hsz
  clear hS1 hS2 hk h0 E6 E7 E8 E9 hne
  go_enter Tryd.func73, Tryd.ntmps73
  go_wp2_with fail
  refine (f32_any _).mono ?_
  rintro e1 w1 ⟨rfl, q1⟩
  go_wp2_with fail
  refine (of32_any a _ ha).mono ?_
  rintro e1 w2 ⟨v, rfl, hv, q2⟩
  rw [HK.out] at hv
  obtain ⟨b', e', m', rfl⟩ := hv
  have q3 : Q w2 (w2.alloc (Obj.cells #[.int .i64 0, .bool b', .slice none 0 0, .int .i64 e', .bool m'] 80)) := (Q.refl w2).cells _ _
  have HS2 : Hid (SFl _ B l k s p L C e m) := HS.out.next ((q1.trans q2).trans q3)
  have HQ2 : Hid (Q w _) := (q1.trans q2).trans q3
  have HXb : Hid (Box5 (w2.alloc (Obj.cells #[.int .i64 0, .bool b', .slice none 0 0, .int .i64 e', .bool m'] 80)) w2.heap.size 0 b' none 0 0 e' m') := ⟨by simp [go_sem], by simp [go_sem], by simp [go_sem], by simp [go_sem], by simp [go_sem]⟩
  have HBX : Hid (w2.heap.size ≠ B) := by
    have h1 := HS.out.h
    have h2 := (q1.trans q2).1.size
    show w2.heap.size ≠ B
    omega
  have hBX : ¬ B = w2.heap.size := fun e => HBX.out e.symm
  have d5 := HS2.out.n
  have d6 := HS2.out.c6
  have d7 := HS2.out.c7
  have d8 := HS2.out.c8
  have d9 := HS2.out.c9
  have z := HS2.out.z
  have g0 := HS2.out.b.c0
  have g1 := HS2.out.b.c1
  have g2 := HS2.out.b.c2
  have g3 := HS2.out.b.c3
  have g4 := HS2.out.b.c4
  clear q1 q2 HS q3
  have x0 := HXb.out.c0
  have x1 := HXb.out.c1
  have x2 := HXb.out.c2
  have x3 := HXb.out.c3
  have x4 := HXb.out.c4
  have zX : ∀ j, (w2.alloc (Obj.cells #[.int .i64 0, .bool b', .slice none 0 0, .int .i64 e', .bool m'] 80)).frozen? ⟨w2.heap.size, j, none⟩ = false := fun j => by simp [go_sem]
  obtain ⟨y, hy⟩ : ∃ y, (w2.alloc (Obj.cells #[.int .i64 0, .bool b', .slice none 0 0, .int .i64 e', .bool m'] 80)) = y := ⟨_, rfl⟩
  rw [hy] at zX HS2 HQ2 HXb d5 d6 d7 d8 d9 z x0 x1 x2 x3 x4 g0 g1 g2 g3 g4
  rw [hm6] at d6 HE6
  rw [hm7] at d7 HE7
  rw [hm8] at d8 HE8
  rw [hm9] at d9 HE9
  clear hm6 hm7 hm8 hm9
  (go_wp2_with fail; exact bodyPost_end (results_none Tryd.results73 _ _ _) rfl ⟨rfl, ⟨_, _, _, _, _, _, _, ((HS2.out.over 2 false none 0 0 0 false).put (l' := l ++ [a]) HLN.out HE6.out.symm HE7.out.symm HE8.out.symm HE9.out.symm), fun _ => (SNm.put (SNm.over HS2.out.b ⟨0, num_start _, by rw [HZ0.out]; exact Val.start⟩) (put0_box HS2.out.b).c0 HSZ.out)⟩, (((HQ2.out.fb B).trans put0_fb).trans putS_fb)⟩)
set_option maxHeartbeats 4000000 in
set_option maxRecDepth 100000 in
theorem splus_nan (l : List Nat) (a B : Nat) (w : World) (ha : a < 4294967296) (hS : SAt w B l) (h0 : l ≠ []) (hn : l.length ≤ 35184372087808) (hk : numOf Ieee.single a = .nan) (hne : a ≠ 2147483648) (hsz : sumZ (l ++ [a]) = sumZ l) (E6 : fl6 (metV (l ++ [a])) = (fl6 (metV l) || true)) (E7 : fl7 (metV (l ++ [a])) = (fl7 (metV l) || false)) (E8 : fl8 (metV (l ++ [a])) = (fl8 (metV l) || false)) (E9 : fl9 (metV (l ++ [a])) = (fl9 (metV l) || true)) :
    Calls Tryd.prog 73 #[.pointer (some ⟨B, 0, none⟩), .int .u32 (a : Int)] w fun e' w' => e' = .returned (.tuple #[]) ∧ SAt w' B (l ++ [a]) ∧ Fb B w w' := by
  obtain ⟨k, s, p, L, C, e, m, hS1, hS2⟩ := hS
  have HS : Hid (SFl w B l k s p L C e m) := hS1
  have HK : Hid (numOf Ieee.single a = .nan) := hk
  have HE6 : Hid _ := E6
  have HE7 : Hid _ := E7
  have HE8 : Hid _ := E8
  have HE9 : Hid _ := E9
  have ew : IntKind.u64.wrap (a : Int) = (a : Int) := by rw [IntKind.wrap_u64]; omega
  have HLN : Hid (((l.length : Int) + 1) = ((l ++ [a]).length : Nat)) := by show ((l.length : Int) + 1) = _; rw [List.length_append, List.length_singleton]; omega
  have hb9 : ((a : Int) != 2147483648) = true := by rw [bne_iff_ne]; omega
  have HN : Hid (SNm w l k s p L C e m) := hS2 h0
  have hb0 : ((l.length : Int) == 0) = false := by
    rw [beq_eq_false_iff_ne]
    have : l.length ≠ 0 := fun g => h0 (List.eq_nil_of_length_eq_zero g)
    omega
  have HSZ : Hid (sumZ (l ++ [a]) = sumZ l) := hsz
  clear hsz
  clear hS1 hS2 hk h0 E6 E7 E8 E9 hne
  go_enter Tryd.func73, Tryd.ntmps73
  go_wp2_with fail
  refine (f32_any _).mono ?_
  rintro e1 w1 ⟨rfl, q1⟩
  go_wp2_with fail
  refine (of32_any a _ ha).mono ?_
  rintro e1 w2 ⟨v, rfl, hv, q2⟩
  rw [HK.out] at hv
  obtain ⟨b', e', m', rfl⟩ := hv
  have q3 : Q w2 (w2.alloc (Obj.cells #[.int .i64 0, .bool b', .slice none 0 0, .int .i64 e', .bool m'] 80)) := (Q.refl w2).cells _ _
  have HS2 : Hid (SFl _ B l k s p L C e m) := HS.out.next ((q1.trans q2).trans q3)
  have HQ2 : Hid (Q w _) := (q1.trans q2).trans q3
  have HN2 : Hid (SNm _ l k s p L C e m) := HN.out.next ((q1.trans q2).trans q3)
  have HXb : Hid (Box5 (w2.alloc (Obj.cells #[.int .i64 0, .bool b', .slice none 0 0, .int .i64 e', .bool m'] 80)) w2.heap.size 0 b' none 0 0 e' m') := ⟨by simp [go_sem], by simp [go_sem], by simp [go_sem], by simp [go_sem], by simp [go_sem]⟩
  have HBX : Hid (w2.heap.size ≠ B) := by
    have h1 := HS.out.h
    have h2 := (q1.trans q2).1.size
    show w2.heap.size ≠ B
    omega
  have hBX : ¬ B = w2.heap.size := fun e => HBX.out e.symm
  have d5 := HS2.out.n
  have d6 := HS2.out.c6
  have d7 := HS2.out.c7
  have d8 := HS2.out.c8
  have d9 := HS2.out.c9
  have z := HS2.out.z
  clear q1 q2 HS q3 HN
  have x0 := HXb.out.c0
  have x1 := HXb.out.c1
  have x2 := HXb.out.c2
  have x3 := HXb.out.c3
  have x4 := HXb.out.c4
  have zX : ∀ j, (w2.alloc (Obj.cells #[.int .i64 0, .bool b', .slice none 0 0, .int .i64 e', .bool m'] 80)).frozen? ⟨w2.heap.size, j, none⟩ = false := fun j => by simp [go_sem]
  obtain ⟨y, hy⟩ : ∃ y, (w2.alloc (Obj.cells #[.int .i64 0, .bool b', .slice none 0 0, .int .i64 e', .bool m'] 80)) = y := ⟨_, rfl⟩
  rw [hy] at zX HS2 HQ2 HXb d5 d6 d7 d8 d9 z x0 x1 x2 x3 x4 HN2
  generalize fl6 (metV l) = b6 at *
  generalize fl7 (metV l) = b7 at *
  generalize fl8 (metV l) = b8 at *
  generalize fl9 (metV l) = b9 at *
  cases b6 <;> cases b7 <;> cases b8 <;> cases b9
  all_goals (go_wp2_with fail; exact bodyPost_end (results_none Tryd.results73 _ _ _) rfl ⟨rfl, ⟨_, _, _, _, _, _, _, (HS2.out.put (l' := l ++ [a]) HLN.out HE6.out.symm HE7.out.symm HE8.out.symm HE9.out.symm), fun _ => (HN2.out.put HS2.out.b.c0 HSZ.out)⟩, ((HQ2.out.fb B).trans putS_fb)⟩)
set_option maxHeartbeats 4000000 in
set_option maxRecDepth 100000 in
theorem splus_pinf0 (l : List Nat) (a B : Nat) (w : World) (ha : a < 4294967296) (hS : SAt w B l) (h0 : l = []) (hn : l.length ≤ 35184372087808) (hk : numOf Ieee.single a = .inf false) (hne : a ≠ 2147483648) (hsz : sumZ (l ++ [a]) = sumZ l) (E6 : fl6 (metV (l ++ [a])) = (fl6 (metV l) || false)) (E7 : fl7 (metV (l ++ [a])) = (fl7 (metV l) || true)) (E8 : fl8 (metV (l ++ [a])) = (fl8 (metV l) || false)) (E9 : fl9 (metV (l ++ [a])) = (fl9 (metV l) || true)) :
    Calls Tryd.prog 73 #[.pointer (some ⟨B, 0, none⟩), .int .u32 (a : Int)] w fun e' w' => e' = .returned (.tuple #[]) ∧ SAt w' B (l ++ [a]) ∧ Fb B w w' := by
  obtain ⟨k, s, p, L, C, e, m, hS1, hS2⟩ := hS
  have HS : Hid (SFl w B l k s p L C e m) := hS1
  have HK : Hid (numOf Ieee.single a = .inf false) := hk
  have HE6 : Hid _ := E6
  have HE7 : Hid _ := E7
  have HE8 : Hid _ := E8
  have HE9 : Hid _ := E9
  have ew : IntKind.u64.wrap (a : Int) = (a : Int) := by rw [IntKind.wrap_u64]; omega
  have HLN : Hid (((l.length : Int) + 1) = ((l ++ [a]).length : Nat)) := by show ((l.length : Int) + 1) = _; rw [List.length_append, List.length_singleton]; omega
  have hb9 : ((a : Int) != 2147483648) = true := by rw [bne_iff_ne]; omega
  have hb0 : ((l.length : Int) == 0) = true := by rw [h0]; rfl
  have HZ0 : Hid (sumZ l = 0) := by show sumZ l = 0; rw [h0]; rfl
  have hm6 : fl6 (metV l) = false := by rw [h0]; decide
  have hm7 : fl7 (metV l) = false := by rw [h0]; decide
  have hm8 : fl8 (metV l) = false := by rw [h0]; decide
  have hm9 : fl9 (metV l) = false := by rw [h0]; decide
  have HSZ : Hid (sumZ (l ++ [a]) = sumZ l) := hsz
  clear hsz
  clear hS1 hS2 hk h0 E6 E7 E8 E9 hne
  go_enter Tryd.func73, Tryd.ntmps73
  go_wp2_with fail
  refine (f32_any _).mono ?_
  rintro e1 w1 ⟨rfl, q1⟩
  go_wp2_with fail
  refine (of32_any a _ ha).mono ?_
  rintro e1 w2 ⟨v, rfl, hv, q2⟩
  rw [HK.out] at hv
  obtain ⟨e', m', rfl⟩ := hv
  have q3 : Q w2 (w2.alloc (Obj.cells #[.int .i64 1, .bool false, .slice none 0 0, .int .i64 e', .bool m'] 80)) := (Q.refl w2).cells _ _
  have HS2 : Hid (SFl _ B l k s p L C e m) := HS.out.next ((q1.trans q2).trans q3)
  have HQ2 : Hid (Q w _) := (q1.trans q2).trans q3
  have HXb : Hid (Box5 (w2.alloc (Obj.cells #[.int .i64 1, .bool false, .slice none 0 0, .int .i64 e', .bool m'] 80)) w2.heap.size 1 false none 0 0 e' m') := ⟨by simp [go_sem], by simp [go_sem], by simp [go_sem], by simp [go_sem], by simp [go_sem]⟩
  have HBX : Hid (w2.heap.size ≠ B) := by
    have h1 := HS.out.h
    have h2 := (q1.trans q2).1.size
    show w2.heap.size ≠ B
    omega
  have hBX : ¬ B = w2.heap.size := fun e => HBX.out e.symm
  have d5 := HS2.out.n
  have d6 := HS2.out.c6
  have d7 := HS2.out.c7
  have d8 := HS2.out.c8
  have d9 := HS2.out.c9
  have z := HS2.out.z
  have g0 := HS2.out.b.c0
  have g1 := HS2.out.b.c1
  have g2 := HS2.out.b.c2
  have g3 := HS2.out.b.c3
  have g4 := HS2.out.b.c4
  clear q1 q2 HS q3
  have x0 := HXb.out.c0
  have x1 := HXb.out.c1
  have x2 := HXb.out.c2
  have x3 := HXb.out.c3
  have x4 := HXb.out.c4
  have zX : ∀ j, (w2.alloc (Obj.cells #[.int .i64 1, .bool false, .slice none 0 0, .int .i64 e', .bool m'] 80)).frozen? ⟨w2.heap.size, j, none⟩ = false := fun j => by simp [go_sem]
  obtain ⟨y, hy⟩ : ∃ y, (w2.alloc (Obj.cells #[.int .i64 1, .bool false, .slice none 0 0, .int .i64 e', .bool m'] 80)) = y := ⟨_, rfl⟩
  rw [hy] at zX HS2 HQ2 HXb d5 d6 d7 d8 d9 z x0 x1 x2 x3 x4 g0 g1 g2 g3 g4
  rw [hm6] at d6 HE6
  rw [hm7] at d7 HE7
  rw [hm8] at d8 HE8
  rw [hm9] at d9 HE9
  clear hm6 hm7 hm8 hm9
  (go_wp2_with fail; exact bodyPost_end (results_none Tryd.results73 _ _ _) rfl ⟨rfl, ⟨_, _, _, _, _, _, _, ((HS2.out.over 2 false none 0 0 0 false).put (l' := l ++ [a]) HLN.out HE6.out.symm HE7.out.symm HE8.out.symm HE9.out.symm), fun _ => (SNm.put (SNm.over HS2.out.b ⟨0, num_start _, by rw [HZ0.out]; exact Val.start⟩) (put0_box HS2.out.b).c0 HSZ.out)⟩, (((HQ2.out.fb B).trans put0_fb).trans putS_fb)⟩)
set_option maxHeartbeats 4000000 in
set_option maxRecDepth 100000 in
theorem splus_pinf (l : List Nat) (a B : Nat) (w : World) (ha : a < 4294967296) (hS : SAt w B l) (h0 : l ≠ []) (hn : l.length ≤ 35184372087808) (hk : numOf Ieee.single a = .inf false) (hne : a ≠ 2147483648) (hsz : sumZ (l ++ [a]) = sumZ l) (E6 : fl6 (metV (l ++ [a])) = (fl6 (metV l) || false)) (E7 : fl7 (metV (l ++ [a])) = (fl7 (metV l) || true)) (E8 : fl8 (metV (l ++ [a])) = (fl8 (metV l) || false)) (E9 : fl9 (metV (l ++ [a])) = (fl9 (metV l) || true)) :
    Calls Tryd.prog 73 #[.pointer (some ⟨B, 0, none⟩), .int .u32 (a : Int)] w fun e' w' => e' = .returned (.tuple #[]) ∧ SAt w' B (l ++ [a]) ∧ Fb B w w' := by
  obtain ⟨k, s, p, L, C, e, m, hS1, hS2⟩ := hS
  have HS : Hid (SFl w B l k s p L C e m) := hS1
  have HK : Hid (numOf Ieee.single a = .inf false) := hk
  have HE6 : Hid _ := E6
  have HE7 : Hid _ := E7
  have HE8 : Hid _ := E8
  have HE9 : Hid _ := E9
  have ew : IntKind.u64.wrap (a : Int) = (a : Int) := by rw [IntKind.wrap_u64]; omega
  have HLN : Hid (((l.length : Int) + 1) = ((l ++ [a]).length : Nat)) := by show ((l.length : Int) + 1) = _; rw [List.length_append, List.length_singleton]; omega
  have hb9 : ((a : Int) != 2147483648) = true := by rw [bne_iff_ne]; omega
  have HN : Hid (SNm w l k s p L C e m) := hS2 h0
  have hb0 : ((l.length : Int) == 0) = false := by
    rw [beq_eq_false_iff_ne]
    have : l.length ≠ 0 := fun g => h0 (List.eq_nil_of_length_eq_zero g)
    omega
  have HSZ : Hid (sumZ (l ++ [a]) = sumZ l) := hsz
  clear hsz
  clear hS1 hS2 hk h0 E6 E7 E8 E9 hne
  go_enter Tryd.func73, Tryd.ntmps73
  go_wp2_with fail
  refine (f32_any _).mono ?_
  rintro e1 w1 ⟨rfl, q1⟩
  go_wp2_with fail
  refine (of32_any a _ ha).mono ?_
  rintro e1 w2 ⟨v, rfl, hv, q2⟩
  rw [HK.out] at hv
  obtain ⟨e', m', rfl⟩ := hv
  have q3 : Q w2 (w2.alloc (Obj.cells #[.int .i64 1, .bool false, .slice none 0 0, .int .i64 e', .bool m'] 80)) := (Q.refl w2).cells _ _
  have HS2 : Hid (SFl _ B l k s p L C e m) := HS.out.next ((q1.trans q2).trans q3)
  have HQ2 : Hid (Q w _) := (q1.trans q2).trans q3
  have HN2 : Hid (SNm _ l k s p L C e m) := HN.out.next ((q1.trans q2).trans q3)
  have HXb : Hid (Box5 (w2.alloc (Obj.cells #[.int .i64 1, .bool false, .slice none 0 0, .int .i64 e', .bool m'] 80)) w2.heap.size 1 false none 0 0 e' m') := ⟨by simp [go_sem], by simp [go_sem], by simp [go_sem], by simp [go_sem], by simp [go_sem]⟩
  have HBX : Hid (w2.heap.size ≠ B) := by
    have h1 := HS.out.h
    have h2 := (q1.trans q2).1.size
    show w2.heap.size ≠ B
    omega
  have hBX : ¬ B = w2.heap.size := fun e => HBX.out e.symm
  have d5 := HS2.out.n
  have d6 := HS2.out.c6
  have d7 := HS2.out.c7
  have d8 := HS2.out.c8
  have d9 := HS2.out.c9
  have z := HS2.out.z
  clear q1 q2 HS q3 HN
  have x0 := HXb.out.c0
  have x1 := HXb.out.c1
  have x2 := HXb.out.c2
  have x3 := HXb.out.c3
  have x4 := HXb.out.c4
  have zX : ∀ j, (w2.alloc (Obj.cells #[.int .i64 1, .bool false, .slice none 0 0, .int .i64 e', .bool m'] 80)).frozen? ⟨w2.heap.size, j, none⟩ = false := fun j => by simp [go_sem]
  obtain ⟨y, hy⟩ : ∃ y, (w2.alloc (Obj.cells #[.int .i64 1, .bool false, .slice none 0 0, .int .i64 e', .bool m'] 80)) = y := ⟨_, rfl⟩
  rw [hy] at zX HS2 HQ2 HXb d5 d6 d7 d8 d9 z x0 x1 x2 x3 x4 HN2
  generalize fl6 (metV l) = b6 at *
  generalize fl7 (metV l) = b7 at *
  generalize fl8 (metV l) = b8 at *
  generalize fl9 (metV l) = b9 at *
  cases b6 <;> cases b7 <;> cases b8 <;> cases b9
  all_goals (go_wp2_with fail; exact bodyPost_end (results_none Tryd.results73 _ _ _) rfl ⟨rfl, ⟨_, _, _, _, _, _, _, (HS2.out.put (l' := l ++ [a]) HLN.out HE6.out.symm HE7.out.symm HE8.out.symm HE9.out.symm), fun _ => (HN2.out.put HS2.out.b.c0 HSZ.out)⟩, ((HQ2.out.fb B).trans putS_fb)⟩)
set_option maxHeartbeats 4000000 in
set_option maxRecDepth 100000 in
theorem splus_minf0 (l : List Nat) (a B : Nat) (w : World) (ha : a < 4294967296) (hS : SAt w B l) (h0 : l = []) (hn : l.length ≤ 35184372087808) (hk : numOf Ieee.single a = .inf true) (hne : a ≠ 2147483648) (hsz : sumZ (l ++ [a]) = sumZ l) (E6 : fl6 (metV (l ++ [a])) = (fl6 (metV l) || false)) (E7 : fl7 (metV (l ++ [a])) = (fl7 (metV l) || false)) (E8 : fl8 (metV (l ++ [a])) = (fl8 (metV l) || true)) (E9 : fl9 (metV (l ++ [a])) = (fl9 (metV l) || true)) :
    Calls Tryd.prog 73 #[.pointer (some ⟨B, 0, none⟩), .int .u32 (a : Int)] w fun e' w' => e' = .returned (.tuple #[]) ∧ SAt w' B (l ++ [a]) ∧ Fb B w w' := by
  obtain ⟨k, s, p, L, C, e, m, hS1, hS2⟩ := hS
  have HS : Hid (SFl w B l k s p L C e m) := hS1
  have HK : Hid (numOf Ieee.single a = .inf true) := hk
  have HE6 : Hid _ := E6
  have HE7 : Hid _ := E7
  have HE8 : Hid _ := E8
  have HE9 : Hid _ := E9
  have ew : IntKind.u64.wrap (a : Int) = (a : Int) := by rw [IntKind.wrap_u64]; omega
  have HLN : Hid (((l.length : Int) + 1) = ((l ++ [a]).length : Nat)) := by show ((l.length : Int) + 1) = _; rw [List.length_append, List.length_singleton]; omega
  have hb9 : ((a : Int) != 2147483648) = true := by rw [bne_iff_ne]; omega
  have hb0 : ((l.length : Int) == 0) = true := by rw [h0]; rfl
  have HZ0 : Hid (sumZ l = 0) := by show sumZ l = 0; rw [h0]; rfl
  have hm6 : fl6 (metV l) = false := by rw [h0]; decide
  have hm7 : fl7 (metV l) = false := by rw [h0]; decide
  have hm8 : fl8 (metV l) = false := by rw [h0]; decide
  have hm9 : fl9 (metV l) = false := by rw [h0]; decide
  have HSZ : Hid (sumZ (l ++ [a]) = sumZ l) := hsz
  clear hsz
  clear hS1 hS2 hk h0 E6 E7 E8 E9 hne
  go_enter Tryd.func73, Tryd.ntmps73
  go_wp2_with fail
  refine (f32_any _).mono ?_
  rintro e1 w1 ⟨rfl, q1⟩
  go_wp2_with fail
  refine (of32_any a _ ha).mono ?_
  rintro e1 w2 ⟨v, rfl, hv, q2⟩
  rw [HK.out] at hv
  obtain ⟨e', m', rfl⟩ := hv
  have q3 : Q w2 (w2.alloc (Obj.cells #[.int .i64 1, .bool true, .slice none 0 0, .int .i64 e', .bool m'] 80)) := (Q.refl w2).cells _ _
  have HS2 : Hid (SFl _ B l k s p L C e m) := HS.out.next ((q1.trans q2).trans q3)
  have HQ2 : Hid (Q w _) := (q1.trans q2).trans q3
  have HXb : Hid (Box5 (w2.alloc (Obj.cells #[.int .i64 1, .bool true, .slice none 0 0, .int .i64 e', .bool m'] 80)) w2.heap.size 1 true none 0 0 e' m') := ⟨by simp [go_sem], by simp [go_sem], by simp [go_sem], by simp [go_sem], by simp [go_sem]⟩
  have HBX : Hid (w2.heap.size ≠ B) := by
    have h1 := HS.out.h
    have h2 := (q1.trans q2).1.size
    show w2.heap.size ≠ B
    omega
  have hBX : ¬ B = w2.heap.size := fun e => HBX.out e.symm
  have d5 := HS2.out.n
  have d6 := HS2.out.c6
  have d7 := HS2.out.c7
  have d8 := HS2.out.c8
  have d9 := HS2.out.c9
  have z := HS2.out.z
  have g0 := HS2.out.b.c0
  have g1 := HS2.out.b.c1
  have g2 := HS2.out.b.c2
  have g3 := HS2.out.b.c3
  have g4 := HS2.out.b.c4
  clear q1 q2 HS q3
  have x0 := HXb.out.c0
  have x1 := HXb.out.c1
  have x2 := HXb.out.c2
  have x3 := HXb.out.c3
  have x4 := HXb.out.c4
  have zX : ∀ j, (w2.alloc (Obj.cells #[.int .i64 1, .bool true, .slice none 0 0, .int .i64 e', .bool m'] 80)).frozen? ⟨w2.heap.size, j, none⟩ = false := fun j => by simp [go_sem]
  obtain ⟨y, hy⟩ : ∃ y, (w2.alloc (Obj.cells #[.int .i64 1, .bool true, .slice none 0 0, .int .i64 e', .bool m'] 80)) = y := ⟨_, rfl⟩
  rw [hy] at zX HS2 HQ2 HXb d5 d6 d7 d8 d9 z x0 x1 x2 x3 x4 g0 g1 g2 g3 g4
  rw [hm6] at d6 HE6
  rw [hm7] at d7 HE7
  rw [hm8] at d8 HE8
  rw [hm9] at d9 HE9
  clear hm6 hm7 hm8 hm9
  (go_wp2_with fail; exact bodyPost_end (results_none Tryd.results73 _ _ _) rfl ⟨rfl, ⟨_, _, _, _, _, _, _, ((HS2.out.over 2 false none 0 0 0 false).put (l' := l ++ [a]) HLN.out HE6.out.symm HE7.out.symm HE8.out.symm HE9.out.symm), fun _ => (SNm.put (SNm.over HS2.out.b ⟨0, num_start _, by rw [HZ0.out]; exact Val.start⟩) (put0_box HS2.out.b).c0 HSZ.out)⟩, (((HQ2.out.fb B).trans put0_fb).trans putS_fb)⟩)
set_option maxHeartbeats 4000000 in
set_option maxRecDepth 100000 in
theorem splus_minf (l : List Nat) (a B : Nat) (w : World) (ha : a < 4294967296) (hS : SAt w B l) (h0 : l ≠ []) (hn : l.length ≤ 35184372087808) (hk : numOf Ieee.single a = .inf true) (hne : a ≠ 2147483648) (hsz : sumZ (l ++ [a]) = sumZ l) (E6 : fl6 (metV (l ++ [a])) = (fl6 (metV l) || false)) (E7 : fl7 (metV (l ++ [a])) = (fl7 (metV l) || false)) (E8 : fl8 (metV (l ++ [a])) = (fl8 (metV l) || true)) (E9 : fl9 (metV (l ++ [a])) = (fl9 (metV l) || true)) :
    Calls Tryd.prog 73 #[.pointer (some ⟨B, 0, none⟩), .int .u32 (a : Int)] w fun e' w' => e' = .returned (.tuple #[]) ∧ SAt w' B (l ++ [a]) ∧ Fb B w w' := by
  obtain ⟨k, s, p, L, C, e, m, hS1, hS2⟩ := hS
  have HS : Hid (SFl w B l k s p L C e m) := hS1
  have HK : Hid (numOf Ieee.single a = .inf true) := hk
  have HE6 : Hid _ := E6
  have HE7 : Hid _ := E7
  have HE8 : Hid _ := E8
  have HE9 : Hid _ := E9
  have ew : IntKind.u64.wrap (a : Int) = (a : Int) := by rw [IntKind.wrap_u64]; omega
  have HLN : Hid (((l.length : Int) + 1) = ((l ++ [a]).length : Nat)) := by show ((l.length : Int) + 1) = _; rw [List.length_append, List.length_singleton]; omega
  have hb9 : ((a : Int) != 2147483648) = true := by rw [bne_iff_ne]; omega
  have HN : Hid (SNm w l k s p L C e m) := hS2 h0
  have hb0 : ((l.length : Int) == 0) = false := by
    rw [beq_eq_false_iff_ne]
    have : l.length ≠ 0 := fun g => h0 (List.eq_nil_of_length_eq_zero g)
    omega
  have HSZ : Hid (sumZ (l ++ [a]) = sumZ l) := hsz
  clear hsz
  clear hS1 hS2 hk h0 E6 E7 E8 E9 hne
  go_enter Tryd.func73, Tryd.ntmps73
  go_wp2_with fail
  refine (f32_any _).mono ?_
  rintro e1 w1 ⟨rfl, q1⟩
  go_wp2_with fail
  refine (of32_any a _ ha).mono ?_
  rintro e1 w2 ⟨v, rfl, hv, q2⟩
  rw [HK.out] at hv
  obtain ⟨e', m', rfl⟩ := hv
  have q3 : Q w2 (w2.alloc (Obj.cells #[.int .i64 1, .bool true, .slice none 0 0, .int .i64 e', .bool m'] 80)) := (Q.refl w2).cells _ _
  have HS2 : Hid (SFl _ B l k s p L C e m) := HS.out.next ((q1.trans q2).trans q3)
  have HQ2 : Hid (Q w _) := (q1.trans q2).trans q3
  have HN2 : Hid (SNm _ l k s p L C e m) := HN.out.next ((q1.trans q2).trans q3)
  have HXb : Hid (Box5 (w2.alloc (Obj.cells #[.int .i64 1, .bool true, .slice none 0 0, .int .i64 e', .bool m'] 80)) w2.heap.size 1 true none 0 0 e' m') := ⟨by simp [go_sem], by simp [go_sem], by simp [go_sem], by simp [go_sem], by simp [go_sem]⟩
  have HBX : Hid (w2.heap.size ≠ B) := by
    have h1 := HS.out.h
    have h2 := (q1.trans q2).1.size
    show w2.heap.size ≠ B
    omega
  have hBX : ¬ B = w2.heap.size := fun e => HBX.out e.symm
  have d5 := HS2.out.n
  have d6 := HS2.out.c6
  have d7 := HS2.out.c7
  have d8 := HS2.out.c8
  have d9 := HS2.out.c9
  have z := HS2.out.z
  clear q1 q2 HS q3 HN
  have x0 := HXb.out.c0
  have x1 := HXb.out.c1
  have x2 := HXb.out.c2
  have x3 := HXb.out.c3
  have x4 := HXb.out.c4
  have zX : ∀ j, (w2.alloc (Obj.cells #[.int .i64 1, .bool true, .slice none 0 0, .int .i64 e', .bool m'] 80)).frozen? ⟨w2.heap.size, j, none⟩ = false := fun j => by simp [go_sem]
  obtain ⟨y, hy⟩ : ∃ y, (w2.alloc (Obj.cells #[.int .i64 1, .bool true, .slice none 0 0, .int .i64 e', .bool m'] 80)) = y := ⟨_, rfl⟩
  rw [hy] at zX HS2 HQ2 HXb d5 d6 d7 d8 d9 z x0 x1 x2 x3 x4 HN2
  generalize fl6 (metV l) = b6 at *
  generalize fl7 (metV l) = b7 at *
  generalize fl8 (metV l) = b8 at *
  generalize fl9 (metV l) = b9 at *
  cases b6 <;> cases b7 <;> cases b8 <;> cases b9
  all_goals (go_wp2_with fail; exact bodyPost_end (results_none Tryd.results73 _ _ _) rfl ⟨rfl, ⟨_, _, _, _, _, _, _, (HS2.out.put (l' := l ++ [a]) HLN.out HE6.out.symm HE7.out.symm HE8.out.symm HE9.out.symm), fun _ => (HN2.out.put HS2.out.b.c0 HSZ.out)⟩, ((HQ2.out.fb B).trans putS_fb)⟩)
end Go.Proofs.YtjjjgdpgfndbdaaDoor
