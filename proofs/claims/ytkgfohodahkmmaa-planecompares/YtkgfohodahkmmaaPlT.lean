/- Planes held against one another: the program's Equal; rectangles that grow. -/
import Derived.Test.YtkgfohodahkmmaaPlR
namespace Go.Proofs.Ytkgfohodahkmmaa
open Go.RowKit
set_option linter.unusedVariables false
set_option linter.unusedSimpArgs false

set_option maxHeartbeats 2000000 in
set_option maxRecDepth 100000 in
theorem seq_any (v : Value) (S : List Nat) (v' : Value) (S' : List Nat) (w : World) (hS : USl w v S) (hS' : USl w v' S') (hn : S.length ≤ 9223372036854775807) (hn' : S'.length ≤ 9223372036854775807) :
    Calls Try.prog 67 #[v, v'] w fun e w' => e = .returned (.bool (decide (S = S'))) ∧ Q w w' := by
  obtain ⟨a, cap, ev⟩ := hS.form
  obtain ⟨a', cap', ev'⟩ := hS'.form
  subst ev ev'
  have HS : Hid (USl w (.slice a S.length cap) S) := hS
  have HS' : Hid (USl w (.slice a' S'.length cap') S') := hS'
  clear hS hS'
  by_cases h3 : S.length = S'.length
  · have b5 : ((S.length : Int) == (S'.length : Int)) = true := by simp [h3]
    have b6 : ((S.length : Int) != (S'.length : Int)) = false := by simp [h3]
    have HL : Hid (S.length = S'.length) := h3
    clear h3
    go_enter Try.func67, Try.ntmps67
    go_wp2_with fail
    go_loopg [13] S.length (fun m s13 wr => ∃ i : Nat, s13 = .int .i64 i ∧ i + m = S.length ∧ Q w wr ∧ Hid (∀ k, k < i → S.getD k 0 = S'.getD k 0))
    case atStart => exact ⟨0, rfl, by omega, Q.refl _, fun k hk => absurd hk (Nat.not_lt_zero _)⟩
    case round =>
      obtain ⟨i, rfl, hm, hq, HE⟩ := hrel
      by_cases hi : i < S.length
      · obtain ⟨g, o, ha, cx⟩ : ∃ g o, a = some ⟨g, o, none⟩ ∧ UIs w g o S := by
          rcases HS.out with ⟨g, o, c, e, _, h⟩ | ⟨_, _, _, e⟩
          · injection e with e; exact ⟨g, o, e, h⟩
          · exfalso; rw [e] at hi; exact Nat.not_lt_zero _ hi
        obtain ⟨g', o', ha', cx'⟩ : ∃ g o, a' = some ⟨g, o, none⟩ ∧ UIs w g o S' := by
          rcases HS'.out with ⟨g, o, c, e, _, h⟩ | ⟨_, _, _, e⟩
          · injection e with e; exact ⟨g, o, e, h⟩
          · exfalso; have := HL.out; rw [e] at this; rw [this] at hi; exact Nat.not_lt_zero _ hi
        subst ha ha'
        have hi' : i < S'.length := by have := HL.out; omega
        have c1 := hq.cell (cx i hi)
        have c2 := hq.cell (cx' i hi')
        have hi0 : (0 : Int) ≤ (i : Int) := by omega
        have hi1 : (i : Int) < (S.length : Int) := by omega
        have hi2 : (i : Int) < (S'.length : Int) := by omega
        have n0 := qw_some wr
        have d3 := qw_cell c1
        have d4 := qw_cell c2
        by_cases hx : S.getD i 0 = S'.getD i 0
        · have e1 : (((S.getD i 0 : Nat) : Int) != ((S'.getD i 0 : Nat) : Int)) = false := by rw [hx]; exact bne_self_eq_false _
          have HN : Hid (∀ k, k < i + 1 → S.getD k 0 = S'.getD k 0) := fun k hk => by
            by_cases e : k = i
            · subst e; exact hx
            · exact HE.out k (by omega)
          clear hx
          generalize S.getD i 0 = X at *
          generalize S'.getD i 0 = Y at *
          go_wp2_with fail
          refine wp_region_quiet_Q (by kernel_rfl) (by kernel_rfl) ?_
          repeat (first | go_big_quiet_step (fail) | quiet_step (fail))
          refine wpQuiet_nil ?_
          intro w4 hw'
          have hq4 := qw_out hw'
          clear hw' n0 d3 d4
          go_wp2_with fail
          go_roundg (S.length - (i + 1))
          case measure => go_light; omega
          case rel => go_light; exact ⟨i + 1, by go_num, by omega, hq.trans hq4, HN⟩
        · have e1 : (((S.getD i 0 : Nat) : Int) != ((S'.getD i 0 : Nat) : Int)) = true := by rw [bne_iff_ne]; omega
          have HN : Hid (¬ S = S') := fun h => hx (by rw [h])
          clear hx
          generalize S.getD i 0 = X at *
          generalize S'.getD i 0 = Y at *
          go_wp2_with fail
          refine wp_region_quiet_Q (by kernel_rfl) (by kernel_rfl) ?_
          repeat (first | go_big_quiet_step (fail) | quiet_step (fail))
          refine wpQuiet_nil ?_
          intro w4 hw'
          have hq4 := qw_out hw'
          clear hw' n0 d3 d4
          go_wp2_with fail
          go_ret
          exact ⟨by rw [decide_eq_false HN.out]; rfl, hq.trans hq4⟩
      · have HN : Hid (S = S') := same_list HL.out (fun k hk => HE.out k (by omega))
        go_wp2_with fail
        go_ret
        exact ⟨by rw [decide_eq_true HN.out]; rfl, hq⟩
  · have b5 : ((S.length : Int) == (S'.length : Int)) = false := by rw [beq_eq_false_iff_ne]; omega
    have b6 : ((S.length : Int) != (S'.length : Int)) = true := by rw [bne_iff_ne]; omega
    have HN : Hid (¬ S = S') := fun h => h3 (by rw [h])
    clear h3
    go_enter Try.func67, Try.ntmps67
    go_wp2_with fail
    go_ret
    exact ⟨by rw [decide_eq_false HN.out]; rfl, Q.refl _⟩
def szB (W H W' H' : Int) : Bool := decide (W = W') && decide (H = H')
theorem szB_true {W H W' H' : Int} : szB W H W' H' = true ↔ W = W' ∧ H = H' := by unfold szB; simp
set_option maxHeartbeats 1000000 in
set_option maxRecDepth 100000 in
theorem sameSize_any (W H : Int) (a : Option Addr) (n c : Nat) (W' H' : Int) (a' : Option Addr) (n' c' : Nat) (w : World) :
    Calls Try.prog 65 #[.agg #[.int .i64 W, .int .i64 H, .slice a n c], .agg #[.int .i64 W', .int .i64 H', .slice a' n' c']] w fun e w' => e = .returned (.bool (szB W H W' H')) ∧ Q w w' := by
  have Q0 : Hid (∀ c t c' t', Q w ((w.alloc (.cells c t)).alloc (.cells c' t'))) := fun c t c' t' => ((Q.refl w).cells c t).cells c' t'
  by_cases h1 : W = W'
  · have b1 : (W == W') = true := by simp [h1]
    by_cases h2 : H = H'
    · have b3 : (H == H') = true := by simp [h2]
      rw [szB_true.2 ⟨h1, h2⟩]
      clear h1 h2
      go_enter Try.func65, Try.ntmps65
      go_wp2_with fail
      go_ret
      exact ⟨rfl, Q0.out _ _ _ _⟩
    · have b3 : (H == H') = false := by rw [beq_eq_false_iff_ne]; exact h2
      have e : szB W H W' H' = false := by unfold szB; simp [h2]
      rw [e]
      clear h1 h2 e
      go_enter Try.func65, Try.ntmps65
      go_wp2_with fail
      go_ret
      exact ⟨rfl, Q0.out _ _ _ _⟩
  · have b1 : (W == W') = false := by rw [beq_eq_false_iff_ne]; exact h1
    have e : szB W H W' H' = false := by unfold szB; simp [h1]
    rw [e]
    clear h1 e
    go_enter Try.func65, Try.ntmps65
    go_wp2_with fail
    go_ret
    exact ⟨rfl, Q0.out _ _ _ _⟩
theorem eqB_sz (W H : Int) (S : List Nat) (W' H' : Int) (S' : List Nat) : eqB W H S W' H' S' = (szB W H W' H' && decide (S = S')) := by
  unfold eqB szB
  rw [Bool.and_assoc]
set_option maxHeartbeats 1000000 in
set_option maxRecDepth 100000 in
theorem equal_any (W H : Int) (v : Value) (S : List Nat) (W' H' : Int) (v' : Value) (S' : List Nat) (w : World) (hS : USl w v S) (hS' : USl w v' S') (hn : S.length ≤ 9223372036854775807) (hn' : S'.length ≤ 9223372036854775807) :
    Calls Try.prog 38 #[.agg #[.int .i64 W, .int .i64 H, v], .agg #[.int .i64 W', .int .i64 H', v']] w fun e w' => e = .returned (.bool (eqB W H S W' H' S')) ∧ Q w w' := by
  rw [eqB_sz]
  have SE : Hid (∀ w' : World, Q w w' → Calls Try.prog 67 #[v, v'] w' fun e w'' => e = .returned (.bool (decide (S = S'))) ∧ Q w' w'') := fun w' q => seq_any v S v' S' w' (hS.next q) (hS'.next q) hn hn'
  obtain ⟨a, cap, ev⟩ := hS.form
  obtain ⟨a', cap', ev'⟩ := hS'.form
  subst ev ev'
  have SS := fun w' : World => sameSize_any W H a S.length cap W' H' a' S'.length cap' w'
  clear hS hS'
  generalize decide (S = S') = D at SE ⊢
  obtain ⟨w1, hw1⟩ : ∃ w1, (w.alloc (.cells #[.int .i64 W, .int .i64 H, .slice a S.length cap] 25)).alloc (.cells #[.int .i64 W', .int .i64 H', .slice a' S'.length cap'] 25) = w1 := ⟨_, rfl⟩
  have Q1 : Hid (Q w w1) := by rw [← hw1]; exact ((Q.refl w).cells _ _).cells _ _
  have z02 : w1.cell? ⟨w.heap.size, 2, none⟩ = some (.slice a S.length cap) := by rw [← hw1]; simp [go_sem]
  have z12 : w1.cell? ⟨w.heap.size + 1, 2, none⟩ = some (.slice a' S'.length cap') := by rw [← hw1]; simp [go_sem]
  have z00 : w1.cell? ⟨w.heap.size, 0, none⟩ = some (.int .i64 W) := by rw [← hw1]; simp [go_sem]
  have z01 : w1.cell? ⟨w.heap.size, 1, none⟩ = some (.int .i64 H) := by rw [← hw1]; simp [go_sem]
  have z10 : w1.cell? ⟨w.heap.size + 1, 0, none⟩ = some (.int .i64 W') := by rw [← hw1]; simp [go_sem]
  have z11 : w1.cell? ⟨w.heap.size + 1, 1, none⟩ = some (.int .i64 H') := by rw [← hw1]; simp [go_sem]
  cases hz : szB W H W' H'
  · rw [hz] at SS
    rw [Bool.false_and]
    clear hz
    go_enter Try.func38, Try.ntmps38
    go_wp2_with fail
    clear hw1
    refine (SS _).mono ?_
    rintro e w2 ⟨rfl, q2⟩
    go_wp2_with fail
    go_ret
    exact ⟨rfl, Q1.out.trans q2⟩
  · rw [hz] at SS
    rw [Bool.true_and]
    clear hz
    go_enter Try.func38, Try.ntmps38
    go_wp2_with fail
    clear hw1
    refine (SS _).mono ?_
    rintro e w2 ⟨rfl, q2⟩
    replace z02 := q2.cell z02
    replace z12 := q2.cell z12
    go_wp2_with fail
    refine (SE.out _ (Q1.out.trans q2)).mono ?_
    rintro e w3 ⟨rfl, q3⟩
    go_wp2_with fail
    go_ret
    exact ⟨rfl, (Q1.out.trans q2).trans q3⟩
set_option maxHeartbeats 1000000 in
set_option maxRecDepth 100000 in
theorem withPlace_any (x0 y0 x1 y1 x y : Int) (hx : 0 ≤ x ∧ x ≤ 1024) (hy : 0 ≤ y ∧ y ≤ 1024) (w : World) :
    Calls Try.prog 66 #[.agg #[.int .i64 x0, .int .i64 y0, .int .i64 x1, .int .i64 y1], .int .i64 x, .int .i64 y] w fun e w' => e = .returned (.agg #[.int .i64 (mn2 x0 x), .int .i64 (mn2 y0 y), .int .i64 (mx2 x1 (x + 1)), .int .i64 (mx2 y1 (y + 1))]) ∧ Q w w' := by
  have m1 : ∀ (ts : Array TypeId) (t : TypeId) (w : World), (Builtin.min_ ts t #[.int .i64 x0, .int .i64 x]).run Try.prog w = .ok (.int .i64 (mn2 x0 x)) w := fun ts t w => by unfold mn2; simp [Builtin.min_, Builtin.min2]
  have m2 : ∀ (ts : Array TypeId) (t : TypeId) (w : World), (Builtin.min_ ts t #[.int .i64 y0, .int .i64 y]).run Try.prog w = .ok (.int .i64 (mn2 y0 y)) w := fun ts t w => by unfold mn2; simp [Builtin.min_, Builtin.min2]
  obtain ⟨xs, hxs⟩ : ∃ xs, x + 1 = xs := ⟨_, rfl⟩
  obtain ⟨ys, hys⟩ : ∃ ys, y + 1 = ys := ⟨_, rfl⟩
  rw [hxs, hys]
  have v1 : IntKind.i64.wrap (x + 1) = xs := by rw [IntKind.wrap_i64]; omega
  have v2 : IntKind.i64.wrap (y + 1) = ys := by rw [IntKind.wrap_i64]; omega
  have m3 : ∀ (ts : Array TypeId) (t : TypeId) (w : World), (Builtin.max_ ts t #[.int .i64 x1, .int .i64 xs]).run Try.prog w = .ok (.int .i64 (mx2 x1 xs)) w := fun ts t w => by unfold mx2; simp [Builtin.max_, Builtin.max2]
  have m4 : ∀ (ts : Array TypeId) (t : TypeId) (w : World), (Builtin.max_ ts t #[.int .i64 y1, .int .i64 ys]).run Try.prog w = .ok (.int .i64 (mx2 y1 ys)) w := fun ts t w => by unfold mx2; simp [Builtin.max_, Builtin.max2]
  generalize mn2 x0 x = A1 at *
  generalize mn2 y0 y = A2 at *
  generalize mx2 x1 xs = A3 at *
  generalize mx2 y1 ys = A4 at *
  clear hxs hys
  have Q0 : Hid (∀ c t c' t', Q w ((w.alloc (.cells c t)).alloc (.cells c' t'))) := fun c t c' t' => ((Q.refl w).cells c t).cells c' t'
  go_enter Try.func66, Try.ntmps66
  go_wp2_with fail
  refine bodyPost_ret (v := .agg #[.int .i64 A1, .int .i64 A2, .int .i64 A3, .int .i64 A4]) (by simp [results, Try.results66, go_sem]) rfl ⟨rfl, Q0.out _ _ _ _⟩
end Go.Proofs.Ytkgfohodahkmmaa
