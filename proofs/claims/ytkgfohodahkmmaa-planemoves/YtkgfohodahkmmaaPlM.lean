/- Planes held against one another: the document's Equal. -/
import Derived.Test.YtkgfohodahkmmaaPlL
import Derived.Test.YtkgfohodahkmmaaRegL
namespace Go.Proofs.Ytkgfohodahkmmaa
open Go.RowKit
set_option linter.unusedVariables false
set_option linter.unusedSimpArgs false

/-- Are two planes the same? -/
def eqB (W H : Int) (S : List Nat) (W' H' : Int) (S' : List Nat) : Bool := decide (W = W') && (decide (H = H') && decide (S = S'))
theorem eqB_true {W H : Int} {S : List Nat} {W' H' : Int} {S' : List Nat} : eqB W H S W' H' S' = true ↔ W = W' ∧ H = H' ∧ S = S' := by
  unfold eqB; simp
theorem eqB_false {W H : Int} {S : List Nat} {W' H' : Int} {S' : List Nat} (h : ¬ (W = W' ∧ H = H' ∧ S = S')) : eqB W H S W' H' S' = false := by
  cases g : eqB W H S W' H' S'
  · rfl
  · exact absurd (eqB_true.1 g) h
theorem same_list {S S' : List Nat} (hl : S.length = S'.length) (h : ∀ i, i < S.length → S.getD i 0 = S'.getD i 0) : S = S' := list_ext hl h
set_option maxHeartbeats 2000000 in
set_option maxRecDepth 100000 in
theorem requal_any (W H : Int) (v : Value) (S : List Nat) (W' H' : Int) (v' : Value) (S' : List Nat) (w : World) (hS : USl w v S) (hS' : USl w v' S') (hn : S.length ≤ 9223372036854775807) (hn' : S'.length ≤ 9223372036854775807) :
    Calls Try.prog 39 #[.agg #[.int .i64 W, .int .i64 H, v], .agg #[.int .i64 W', .int .i64 H', v']] w fun e w' => e = .returned (.bool (eqB W H S W' H' S')) ∧ Q w w' := by
  obtain ⟨a, cap, ev⟩ := hS.form
  obtain ⟨a', cap', ev'⟩ := hS'.form
  subst ev ev'
  obtain ⟨w1, hw1⟩ : ∃ w1, (w.alloc (.cells #[.int .i64 W, .int .i64 H, .slice a S.length cap] 25)).alloc (.cells #[.int .i64 W', .int .i64 H', .slice a' S'.length cap'] 25) = w1 := ⟨_, rfl⟩
  have Q1 : Hid (Q w w1) := by rw [← hw1]; exact ((Q.refl w).cells _ _).cells _ _
  have z00 : w1.cell? ⟨w.heap.size, 0, none⟩ = some (.int .i64 W) := by rw [← hw1]; simp [go_sem]
  have z01 : w1.cell? ⟨w.heap.size, 1, none⟩ = some (.int .i64 H) := by rw [← hw1]; simp [go_sem]
  have z02 : w1.cell? ⟨w.heap.size, 2, none⟩ = some (.slice a S.length cap) := by rw [← hw1]; simp [go_sem]
  have z10 : w1.cell? ⟨w.heap.size + 1, 0, none⟩ = some (.int .i64 W') := by rw [← hw1]; simp [go_sem]
  have z11 : w1.cell? ⟨w.heap.size + 1, 1, none⟩ = some (.int .i64 H') := by rw [← hw1]; simp [go_sem]
  have z12 : w1.cell? ⟨w.heap.size + 1, 2, none⟩ = some (.slice a' S'.length cap') := by rw [← hw1]; simp [go_sem]
  have HS : Hid (USl w (.slice a S.length cap) S) := hS
  have HS' : Hid (USl w (.slice a' S'.length cap') S') := hS'
  clear hS hS'
  by_cases h1 : W = W'
  · have b1 : (W == W') = true := by simp [h1]
    have b2 : (W != W') = false := by simp [h1]
    by_cases h2 : H = H'
    · have b3 : (H == H') = true := by simp [h2]
      have b4 : (H != H') = false := by simp [h2]
      by_cases h3 : S.length = S'.length
      · have b5 : ((S.length : Int) == (S'.length : Int)) = true := by simp [h3]
        have b6 : ((S.length : Int) != (S'.length : Int)) = false := by simp [h3]
        have HL : Hid (S.length = S'.length) := h3
        have HW : Hid (W = W' ∧ H = H') := ⟨h1, h2⟩
        clear h1 h2 h3
        go_enter Try.func39, Try.ntmps39
        go_wp2_with fail
        clear hw1
        go_loopg [5] S.length (fun m s5 wr => ∃ i : Nat, s5 = .int .i64 i ∧ i + m = S.length ∧ Q w1 wr ∧ Hid (∀ k, k < i → S.getD k 0 = S'.getD k 0))
        case atStart => exact ⟨0, rfl, by omega, Q.refl _, fun k hk => absurd hk (Nat.not_lt_zero _)⟩
        case round =>
          obtain ⟨i, rfl, hm, hq, HE⟩ := hrel
          have y02 := hq.cell z02
          have y12 := hq.cell z12
          by_cases hi : i < S.length
          · obtain ⟨g, o, ha, cx⟩ : ∃ g o, a = some ⟨g, o, none⟩ ∧ UIs w g o S := by
              rcases HS.out with ⟨g, o, c, e, _, h⟩ | ⟨_, _, _, e⟩
              · injection e with e; exact ⟨g, o, e, h⟩
              · exfalso; rw [e] at hi; exact Nat.not_lt_zero _ hi
            obtain ⟨g', o', ha', cx'⟩ : ∃ g o, a' = some ⟨g, o, none⟩ ∧ UIs w g o S' := by
              rcases HS'.out with ⟨g, o, c, e, _, h⟩ | ⟨_, _, _, e⟩
              · injection e with e; exact ⟨g, o, e, h⟩
              · exfalso; have := HL.out; rw [e] at this; rw [this] at hi; exact Nat.not_lt_zero _ hi
            subst ha ha'
            have hi' : i < S'.length := by have := HL.out; omega
            have c1 := hq.cell (Q1.out.cell (cx i hi))
            have c2 := hq.cell (Q1.out.cell (cx' i hi'))
            have hi0 : (0 : Int) ≤ (i : Int) := by omega
            have hi1 : (i : Int) < (S.length : Int) := by omega
            have hi2 : (i : Int) < (S'.length : Int) := by omega
            have n0 := qw_some wr
            have d1 := qw_cell y02
            have d2 := qw_cell y12
            have d3 := qw_cell c1
            have d4 := qw_cell c2
            by_cases hx : S.getD i 0 = S'.getD i 0
            · have e1 : (((S.getD i 0 : Nat) : Int) != ((S'.getD i 0 : Nat) : Int)) = false := by rw [hx]; exact bne_self_eq_false _
              have HN : Hid (∀ k, k < i + 1 → S.getD k 0 = S'.getD k 0) := fun k hk => by
                by_cases e : k = i
                · subst e; exact hx
                · exact HE.out k (by omega)
              clear hx
              generalize S.getD i 0 = X at *
              generalize S'.getD i 0 = Y at *
              go_wp2_with fail
              refine wp_region_quiet_Q (by kernel_rfl) (by kernel_rfl) ?_
              repeat (first | go_big_quiet_step (fail) | quiet_step (fail))
              refine wpQuiet_nil ?_
              intro w4 hw'
              have hq4 := qw_out hw'
              clear hw' n0 d1 d2 d3 d4
              go_wp2_with fail
              go_roundg (S.length - (i + 1))
              case measure => go_light; omega
              case rel => go_light; exact ⟨i + 1, by go_num, by omega, hq.trans hq4, HN⟩
            · have e1 : (((S.getD i 0 : Nat) : Int) != ((S'.getD i 0 : Nat) : Int)) = true := by rw [bne_iff_ne]; omega
              have HN : Hid (¬ S = S') := fun h => hx (by rw [h])
              clear hx
              generalize S.getD i 0 = X at *
              generalize S'.getD i 0 = Y at *
              go_wp2_with fail
              refine wp_region_quiet_Q (by kernel_rfl) (by kernel_rfl) ?_
              repeat (first | go_big_quiet_step (fail) | quiet_step (fail))
              refine wpQuiet_nil ?_
              intro w4 hw'
              have hq4 := qw_out hw'
              clear hw' n0 d1 d2 d3 d4
              go_wp2_with fail
              go_ret
              exact ⟨by rw [eqB_false (fun h => HN.out h.2.2)]; rfl, (Q1.out.trans hq).trans hq4⟩
          · have HN : Hid (S = S') := same_list HL.out (fun k hk => HE.out k (by omega))
            go_wp2_with fail
            go_ret
            exact ⟨by rw [eqB_true.2 ⟨HW.out.1, HW.out.2, HN.out⟩]; rfl, Q1.out.trans hq⟩
      · have b5 : ((S.length : Int) == (S'.length : Int)) = false := by rw [beq_eq_false_iff_ne]; omega
        have b6 : ((S.length : Int) != (S'.length : Int)) = true := by rw [bne_iff_ne]; omega
        have HN : Hid (¬ S = S') := fun h => h3 (by rw [h])
        clear h1 h2 h3
        go_enter Try.func39, Try.ntmps39
        go_wp2_with fail
        go_ret
        exact ⟨by rw [eqB_false (fun h => HN.out h.2.2)]; rfl, Q1.out⟩
    · have b3 : (H == H') = false := by rw [beq_eq_false_iff_ne]; exact h2
      have b4 : (H != H') = true := by rw [bne_iff_ne]; exact h2
      have HN : Hid (¬ H = H') := h2
      clear h1 h2
      go_enter Try.func39, Try.ntmps39
      go_wp2_with fail
      go_ret
      exact ⟨by rw [eqB_false (fun h => HN.out h.2.1)]; rfl, Q1.out⟩
  · have b1 : (W == W') = false := by rw [beq_eq_false_iff_ne]; exact h1
    have b2 : (W != W') = true := by rw [bne_iff_ne]; exact h1
    have HN : Hid (¬ W = W') := h1
    clear h1
    go_enter Try.func39, Try.ntmps39
    go_wp2_with fail
    go_ret
    exact ⟨by rw [eqB_false (fun h => HN.out h.1)]; rfl, Q1.out⟩
end Go.Proofs.Ytkgfohodahkmmaa
