/- Planes turned: the program's Turn. -/
import Derived.Test.YtkgfohodahkmmaaPlJ
import Derived.Deep.RegionWith
namespace Go.Proofs.Ytkgfohodahkmmaa
open Go.RowKit
set_option linter.unusedVariables false
set_option linter.unusedSimpArgs false

set_option maxHeartbeats 4000000 in
set_option maxRecDepth 100000 in
theorem turn_aux {a b : Nat} (hs : Size a b) {S : List Nat} (hl : S.length = a * b) (g o cap : Nat) (k : Int) {q : Nat} (hk : k % 4 = q) (w : World) (A2 B2 f : Nat) (Z : List Nat)
    (TU0 : ∀ w' : World, Calls Try.prog 60 #[.agg #[.int .i64 (a : Int), .int .i64 (b : Int), .slice (some ⟨g, o, none⟩) S.length cap], .int .i64 (q : Int)] w' fun e w'' => e = .returned (.agg #[.int .i64 (A2 : Int), .int .i64 (B2 : Int), .func (.func f) #[] #[.pointer (some ⟨w'.heap.size, 0, none⟩)]]) ∧ Q w' w'' ∧ PBox w'' w'.heap.size a b (.slice (some ⟨g, o, none⟩) S.length cap))
    (LA0 : ∀ (B : Nat) (w' : World), Q w w' → PBox w' B a b (.slice (some ⟨g, o, none⟩) S.length cap) → Calls Try.prog 44 #[.agg #[.int .i64 (A2 : Int), .int .i64 (B2 : Int), .func (.func f) #[] #[.pointer (some ⟨B, 0, none⟩)]]] w' fun e w'' => ∃ g, e = .returned (.agg #[.int .i64 (A2 : Int), .int .i64 (B2 : Int), .slice (some ⟨g, 0, none⟩) (A2 * B2) (A2 * B2)]) ∧ Own w' w'' g Z) :
    Calls Try.prog 30 #[.agg #[.int .i64 (a : Int), .int .i64 (b : Int), .slice (some ⟨g, o, none⟩) S.length cap], .int .i64 k] w (Made w A2 B2 Z) := by
  have hb : ((0 : Int) != 0) = false := by decide
  have hn : S.length ≤ 9223372036854775807 := by have := hs.ab; omega
  obtain ⟨w1, hw1⟩ : ∃ w1, (w.alloc (.cells #[.int .i64 (a : Int), .int .i64 (b : Int), .slice (some ⟨g, o, none⟩) S.length cap] 25)).alloc (.cells #[.int .i64 0, .int .i64 0, .slice none 0 0] 25) = w1 := ⟨_, rfl⟩
  have Q1 : Hid (Q w w1) := by rw [← hw1]; exact (((Q.refl w).cells _ _).cells _ _)
  have S1 : w1.heap.size = w.heap.size + 1 + 1 := by rw [← hw1]; simp
  have z00 : w1.cell? ⟨w.heap.size, 0, none⟩ = some (.int .i64 (a : Int)) := by rw [← hw1]; simp [go_sem]
  have z01 : w1.cell? ⟨w.heap.size, 1, none⟩ = some (.int .i64 (b : Int)) := by rw [← hw1]; simp [go_sem]
  have z02 : w1.cell? ⟨w.heap.size, 2, none⟩ = some (.slice (some ⟨g, o, none⟩) S.length cap) := by rw [← hw1]; simp [go_sem]
  have z10 : w1.cell? ⟨w.heap.size + 1, 0, none⟩ = some (.int .i64 0) := by rw [← hw1]; simp [go_sem]
  have z11 : w1.cell? ⟨w.heap.size + 1, 1, none⟩ = some (.int .i64 0) := by rw [← hw1]; simp [go_sem]
  have z12 : w1.cell? ⟨w.heap.size + 1, 2, none⟩ = some (.slice none 0 0) := by rw [← hw1]; simp [go_sem]
  have yf : ∀ j, w1.frozen? ⟨w.heap.size + 1, j, none⟩ = false := fun j => by rw [← hw1]; simp [go_sem]
  have A := check_any (a : Int) (b : Int) (some ⟨g, o, none⟩) S.length cap hn w1
  rw [show chk (a : Int) (b : Int) S.length = 0 by rw [hl]; exact chk_size hs] at A
  have MO : Hid (∀ w : World, Calls Try.prog 61 #[.int .i64 k, .int .i64 4] w fun e w' => e = .returned (.int .i64 (q : Int)) ∧ w' = w) := fun w => hk ▸ modulo_any k 4 (by decide) (by decide) w
  have TU : Hid (∀ w' : World, Calls Try.prog 60 #[.agg #[.int .i64 (a : Int), .int .i64 (b : Int), .slice (some ⟨g, o, none⟩) S.length cap], .int .i64 (q : Int)] w' fun e w'' => e = .returned (.agg #[.int .i64 (A2 : Int), .int .i64 (B2 : Int), .func (.func f) #[] #[.pointer (some ⟨w'.heap.size, 0, none⟩)]]) ∧ Q w' w'' ∧ PBox w'' w'.heap.size a b (.slice (some ⟨g, o, none⟩) S.length cap)) := TU0
  have LA : Hid (∀ (B : Nat) (w' : World), Q w w' → PBox w' B a b (.slice (some ⟨g, o, none⟩) S.length cap) → Calls Try.prog 44 #[.agg #[.int .i64 (A2 : Int), .int .i64 (B2 : Int), .func (.func f) #[] #[.pointer (some ⟨B, 0, none⟩)]]] w' fun e w'' => ∃ g, e = .returned (.agg #[.int .i64 (A2 : Int), .int .i64 (B2 : Int), .slice (some ⟨g, 0, none⟩) (A2 * B2) (A2 * B2)]) ∧ Own w' w'' g Z) := LA0
  clear hs hl hn hk TU0 LA0
  go_enter Try.func30, Try.ntmps30
  go_wp2_with fail
  refine A.mono ?_
  rintro e w2 ⟨rfl, q2⟩
  replace z00 := q2.cell z00
  replace z01 := q2.cell z01
  replace z02 := q2.cell z02
  replace z10 := q2.cell z10
  replace z11 := q2.cell z11
  replace z12 := q2.cell z12
  have yg : ∀ j, w2.frozen? ⟨w.heap.size + 1, j, none⟩ = false := fun j => by rw [q2.2]; exact yf j
  have HQ : Hid (Q w w2) := Q1.out.trans q2
  have hsz : w.heap.size + 1 + 1 ≤ w2.heap.size := by have := q2.1.size; omega
  clear hw1 A yf q2 Q1 S1
  have k0 : w2.drew.heap.size = w2.heap.size := rfl
  go_wp2_with fail
  go_region_with (first
    | (go_at_call 61; refine (MO.out _).mono ?_; rintro e v1 ⟨rfl, rfl⟩)
    | (go_at_call 60; refine (TU.out _).mono ?_; rintro e v2 ⟨rfl, qv, pv⟩; have QV : Hid (Q w2 v2) := (Q.refl w2).drew.trans qv; have PV : Hid (PBox v2 w2.heap.size a b (.slice (some ⟨g, o, none⟩) S.length cap)) := pv; clear qv pv)
    | (go_at_call 44; refine (LA.out _ _ (HQ.out.trans (Hid.out (by assumption))) (Hid.out (by assumption))).mono ?_; rintro e v3 ⟨g3, rfl, o3⟩; have HO : Hid (Own w2 v3 g3 Z) := o3.base (Hid.out (by assumption)); have t0 := HO.out.q.cell z10; have t1 := HO.out.q.cell z11; have t2 := HO.out.q.cell z12; have t3 : ∀ j, v3.frozen? ⟨w.heap.size + 1, j, none⟩ = false := (fun j => by rw [HO.out.q.2]; exact yg j); clear o3))
  all_goals go_wp2_with fail
  all_goals (refine bodyPost_ret (v := .tuple #[.agg #[.int .i64 (A2 : Int), .int .i64 (B2 : Int), .slice (some ⟨g3, 0, none⟩) (A2 * B2) (A2 * B2)], .int .i64 0]) (by simp [results, Try.results30, go_sem, t0, t1, t2]) rfl ⟨g3, rfl, ?_⟩)
  all_goals (have hg : g3 ≠ w.heap.size + 1 := (by have h1 := HO.out.new; omega))
  all_goals (have HP := HO.out.base HQ.out)
  all_goals exact ((HP.set (by omega) (fun e => hg e.symm)).set (by omega) (fun e => hg e.symm)).set (by omega) (fun e => hg e.symm)
theorem turn_good {a b : Nat} (hs : Size a b) {S : List Nat} (hl : S.length = a * b) (g o cap : Nat) (k : Int) {q : Nat} (hk : k % 4 = q) (w : World) (hu : UIs w g o S) :
    Calls Try.prog 30 #[.agg #[.int .i64 (a : Int), .int .i64 (b : Int), .slice (some ⟨g, o, none⟩) S.length cap], .int .i64 k] w (Made w (tuA q a b) (tuB q a b) (tab (tuA q a b) (tuB q a b) (tuV q S a b))) := by
  refine turn_aux hs hl g o cap k hk w _ _ (tuF q) _ (fun w' => turned_any q (by omega) a b g o cap S w') ?_
  intro B w' hq hB
  refine lay_any _ _ (tu_size hs) (tuF q) _ (tuF_enters q) (tuV q S a b) w' ?_
  intro x y w'' hx hy hq'
  exact tuF_any hs hl hx hy (hB.next hq') (hu.next (hq.trans hq'))
end Go.Proofs.Ytkgfohodahkmmaa
