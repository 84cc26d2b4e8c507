/- The examples of the chapter, as the statements ask them. -/
import Derived.Test.YtfolecnjaaakeaaCurvK
namespace Go.Proofs.Ytfolecnjaaakeaa
open Go.RowKit

theorem lk_kis (w : World) : KIs (w.alloc (.cells #[.int .u32 0, .int .u32 0, .int .u32 1065353216, .int .u32 1056964608, .int .u32 1073741824, .int .u32 1082130432] 32)) w.heap.size 0 lk := by
  intro i hi
  match i, hi with
  | 0, _ => exact ⟨by simp [go_sem, kx, lk], by simp [go_sem, ky, lk]⟩
  | 1, _ => exact ⟨by simp [go_sem, kx, lk], by simp [go_sem, ky, lk]⟩
  | 2, _ => exact ⟨by simp [go_sem, kx, lk], by simp [go_sem, ky, lk]⟩
  | i + 3, h => exact absurd h (by show ¬ (i + 3 < 3); omega)
set_option maxHeartbeats 2000000 in
set_option maxRecDepth 100000 in
theorem mkmade_any (w : World) : Calls Try.prog 35 #[] w fun e w' => ∃ b, e = .returned (.pointer (some ⟨b, 0, none⟩)) ∧ CIs w' b 0 lk ∧ Q w w' := by
  have HN : Hid (∀ W : World, KIs W w.heap.size 0 lk → Calls Try.prog 23 #[.slice (some ⟨w.heap.size, 0, none⟩) 3 3] W fun e w' => ∃ b, e = .returned (.tuple #[.pointer (some ⟨b, 0, none⟩), .int .i64 0]) ∧ CIs w' b 0 lk ∧ Q W w') := by
    intro W hk
    refine (new_any w.heap.size 0 3 lk (by decide) (by decide) (by decide) lk_lt W hk).mono ?_
    rintro e w' ⟨q, ⟨r, _, hb⟩ | ⟨b, rfl, _, h, _⟩⟩
    · exact absurd hb lk_n
    · exact ⟨b, rfl, h, q⟩
  go_enter Try.func35, Try.ntmps35
  go_wp2_with fail
  refine (HN.out _ (lk_kis w)).mono ?_
  rintro e w1 ⟨b, rfl, hc, q1⟩
  have HC : Hid (CIs w1 b 0 lk) := hc
  clear hc
  go_wp2_with fail
  go_ret
  exact ⟨b, rfl, HC.out, ((Q.refl w).cells _ _).trans q1⟩

set_option maxHeartbeats 4000000 in
set_option maxRecDepth 100000 in
theorem known_any (w : World) : Calls Try.prog 9 #[] w fun e w' => e = .returned (.bool true) ∧ Q w w' := by
  have ok := good_ok lk_ok lk_lt
  have A1 : Hid (∀ (b : Nat) (w : World), CIs w b 0 lk → Calls Try.prog 13 #[.pointer (some ⟨b, 0, none⟩), .int .u32 1056964608] w fun e w' => e = .returned (.int .u32 1048576000) ∧ Q w w') := fun b w h => by
    have := at_any b 0 lk ok 1056964608 (by decide) w h; rw [lk_1] at this; exact this
  have A2 : Hid (∀ (b : Nat) (w : World), CIs w b 0 lk → Calls Try.prog 13 #[.pointer (some ⟨b, 0, none⟩), .int .u32 1069547520] w fun e w' => e = .returned (.int .u32 1074790400) ∧ Q w w') := fun b w h => by
    have := at_any b 0 lk ok 1069547520 (by decide) w h; rw [lk_2] at this; exact this
  have A3 : Hid (∀ (b : Nat) (w : World), CIs w b 0 lk → Calls Try.prog 13 #[.pointer (some ⟨b, 0, none⟩), .int .u32 3212836864] w fun e w' => e = .returned (.int .u32 0) ∧ Q w w') := fun b w h => by
    have := at_any b 0 lk ok 3212836864 (by decide) w h; rw [lk_3] at this; exact this
  have A4 : Hid (∀ (b : Nat) (w : World), CIs w b 0 lk → Calls Try.prog 13 #[.pointer (some ⟨b, 0, none⟩), .int .u32 2139095041] w fun e w' => e = .returned (.int .u32 2143289344) ∧ Q w w') := fun b w h => by
    have := at_any b 0 lk ok 2139095041 (by decide) w h; rw [lk_4] at this; exact this
  have A5 : Hid (∀ (b : Nat) (w : World), CIs w b 0 lk → Calls Try.prog 16 #[.pointer (some ⟨b, 0, none⟩), .int .u32 1048576000] w fun e w' => e = .returned (.tuple #[.agg #[.int .u32 1056964608, .int .u32 1056964607, .bool true], .int .i64 0]) ∧ Q w w') := fun b w h => by
    have := cleastm_any b 0 lk ok 1048576000 w h
    rw [show kx lk 0 = 0 from rfl, show kx lk (lk.length - 1) = 1073741824 from rfl, lk_5, lk_6, lk_7, lk_8] at this; exact this
  have A6 : Hid (∀ (b : Nat) (w : World), CIs w b 0 lk → Calls Try.prog 16 #[.pointer (some ⟨b, 0, none⟩), .int .u32 1084227584] w fun e w' => (∃ x y z, e = .returned (.tuple #[.agg #[.int .u32 x, .int .u32 y, .bool z], .int .i64 43])) ∧ Q w w') := fun b w h => by
    have := cleastm_any b 0 lk ok 1084227584 w h
    rw [show kx lk 0 = 0 from rfl, show kx lk (lk.length - 1) = 1073741824 from rfl, lk_9] at this
    refine this.mono ?_
    rintro e w' ⟨rfl, q⟩
    exact ⟨⟨_, _, _, rfl⟩, q⟩
  have A7 : Hid (∀ (b : Nat) (w : World), CIs w b 0 lk → Calls Try.prog 17 #[.pointer (some ⟨b, 0, none⟩), .int .u32 1048576000, .agg #[.int .u32 1056964608, .int .u32 1056964607, .bool true]] w fun e w' => e = .returned (.bool true) ∧ Q w w') := fun b w h => by
    have := ccheckm_any b 0 lk ok 1048576000 1056964608 1056964607 true (by decide) (by decide) w h
    rw [show kx lk 0 = 0 from rfl, show kx lk (lk.length - 1) = 1073741824 from rfl, lk_10] at this; exact this
  clear ok
  go_enter Try.func9, Try.ntmps9
  go_wp2_with fail
  refine (mkmade_any _).mono ?_
  rintro e w1 ⟨b, rfl, hc, q1⟩
  have HC : Hid (CIs w1 b 0 lk) := hc
  clear hc
  go_wp2_with fail
  refine (A1.out b _ HC.out).mono ?_
  rintro e w2 ⟨rfl, q2⟩
  replace HC : Hid (CIs w2 b 0 lk) := HC.out.next q2
  go_wp2_with fail
  refine (A2.out b _ HC.out).mono ?_
  rintro e w3 ⟨rfl, q3⟩
  replace HC : Hid (CIs w3 b 0 lk) := HC.out.next q3
  go_wp2_with fail
  refine (A3.out b _ HC.out).mono ?_
  rintro e w4 ⟨rfl, q4⟩
  replace HC : Hid (CIs w4 b 0 lk) := HC.out.next q4
  go_wp2_with fail
  refine (A4.out b _ HC.out).mono ?_
  rintro e w5 ⟨rfl, q5⟩
  replace HC : Hid (CIs w5 b 0 lk) := HC.out.next q5
  have hq : Q w w5 := (((q1.trans q2).trans q3).trans q4).trans q5
  clear q1 q2 q3 q4 q5
  go_wp2_with fail
  refine (A5.out b _ HC.out).mono ?_
  rintro e w6 ⟨rfl, q6⟩
  replace HC : Hid (CIs w6 b 0 lk) := HC.out.next q6
  replace hq := hq.trans q6
  clear q6
  go_wp2_with fail
  refine (A6.out b _ (HC.out.next ((Q.refl _).cells _ _))).mono ?_
  rintro e w7 ⟨⟨x, y, z, rfl⟩, q7⟩
  have c0 : w7.cell? ⟨w6.heap.size, 0, none⟩ = some (.int .u32 1056964608) := q7.cell (by simp [go_sem])
  have c1 : w7.cell? ⟨w6.heap.size, 1, none⟩ = some (.int .u32 1056964607) := q7.cell (by simp [go_sem])
  have c2 : w7.cell? ⟨w6.heap.size, 2, none⟩ = some (.bool true) := q7.cell (by simp [go_sem])
  replace HC : Hid (CIs w7 b 0 lk) := (HC.out.next ((Q.refl _).cells _ _)).next q7
  replace hq := (hq.cells _ _).trans q7
  clear q7
  have d0 := fun c t => cell_1 c0 c t
  have d1 := fun c t => cell_1 c1 c t
  have d2 := fun c t => cell_1 c2 c t
  go_wp2_with fail
  refine (A7.out b _ (HC.out.next ((Q.refl _).cells _ _))).mono ?_
  rintro e w8 ⟨rfl, q8⟩
  go_wp2_with fail
  go_ret
  exact ⟨rfl, (hq.cells _ _).trans q8⟩
end Go.Proofs.Ytfolecnjaaakeaa
