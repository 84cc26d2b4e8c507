/- Planes that are the same. -/
import Derived.Test.YtedaacddnahjkaaG08374a75
import Derived.Test.YtedaacddnahjkaaG631fdf94
namespace Go.Proofs.Ytedaacddnahjkaa
open Go.RowKit
set_option linter.unusedVariables false
set_option linter.unusedSimpArgs false

set_option maxHeartbeats 2000000 in
set_option maxRecDepth 100000 in
theorem hplanes_yes (a b : Int) (p q : Option Addr) (n c d : Nat) (S : List Nat) (w : World) (h : USl w (.slice p n c) S) (h' : USl w (.slice q n d) S) (hn : S.length ≤ 9223372036854775807) :
    Calls Try.prog 17 #[.agg #[.int .i64 a, .int .i64 b, .slice p n c], .agg #[.int .i64 a, .int .i64 b, .slice q n d]] w fun e w' => e = .returned (.bool true) ∧ Q w w' := by
  have H1 : Hid (USl w (.slice p n c) S) := h
  have H2 : Hid (USl w (.slice q n d) S) := h'
  clear h h'
  have qa : Hid (∀ a b c d, Q w ((w.alloc (.cells a b)).alloc (.cells c d))) := fun a b c d => ((Q.refl w).cells _ _).cells _ _
  go_enter Try.func17, Try.ntmps17
  go_wp2_with fail
  refine (words_eq _ _ S _ (H1.out.next (qa.out _ _ _ _)) (H2.out.next (qa.out _ _ _ _)) hn).mono ?_
  rintro e w1 ⟨rfl, q1⟩
  go_wp2_with fail
  go_ret
  exact ⟨rfl, (qa.out _ _ _ _).trans q1⟩
end Go.Proofs.Ytedaacddnahjkaa
/- Lists of whole numbers held against one another. -/
namespace Go.Proofs.Ytedaacddnahjkaa
open Go.RowKit
set_option linter.unusedVariables false
set_option linter.unusedSimpArgs false

set_option maxHeartbeats 2000000 in
set_option maxRecDepth 100000 in
/-- halidehelp.Ints: the same lists? -/
theorem ints_any (v u : Value) (L M : List Int) (w : World) (hv : ISl w v L) (hu : ISl w u M) (hn : L.length ≤ 100000) (hm : M.length ≤ 100000) :
    Calls Try.prog 11 #[v, u] w fun e w' => e = .returned (.bool (decide (L = M))) ∧ Q w w' := by
  obtain ⟨ad, c, rfl⟩ := hv.form
  obtain ⟨ad2, c2, rfl⟩ := hu.form
  by_cases hl : L.length = M.length
  · obtain ⟨B, hB⟩ : ∃ B, decide (L = M) = B := ⟨_, rfl⟩
    have HB : Hid (decide (L = M) = B) := hB
    rw [hB]
    obtain ⟨N, eN⟩ : ∃ N, L.length = N := ⟨_, rfl⟩
    have HV : Hid (ISl w (.slice ad N c) L ∧ L.length = N) := ⟨by rw [← eN]; exact hv, eN⟩
    have HU : Hid (ISl w (.slice ad2 N c2) M ∧ M.length = N) := ⟨by rw [← eN, hl]; exact hu, by rw [← eN, hl]⟩
    rw [← hl, eN]
    rw [eN] at hn
    clear hv hu hl eN hB hm
    go_enter Try.func11, Try.ntmps11
    go_wp2_with fail
    go_loopg [5] N (fun gh s5 wr => ∃ i : Nat, s5 = .int .i64 (i : Int) ∧ i ≤ N ∧ gh = N - i ∧ Hid (∀ j, j < i → L.getD j 0 = M.getD j 0) ∧ Hid (Q w wr))
    case atStart => exact ⟨0, rfl, Nat.zero_le _, rfl, fun j hj => absurd hj (by omega), Q.refl w⟩
    case round =>
      obtain ⟨i, rfl, hi, rfl, HS, HQ⟩ := hrel
      by_cases hlt : i < N
      · have hltz : (i : Int) < (N : Int) := by omega
        obtain ⟨g1, o1, d1, hs1, hI1⟩ := HV.out.1.some (by have := HV.out.2; omega)
        rw [HV.out.2] at hs1 hI1
        injection hs1 with e1 e2 e3
        subst e1 e3
        obtain ⟨g2, o2, d2, hs2, hI2⟩ := HU.out.1.some (by have := HU.out.2; omega)
        rw [HU.out.2] at hs2 hI2
        injection hs2 with f1 f2 f3
        subst f1 f3
        have k1 := qw_cell (HQ.out.cell (hI1 i hlt))
        have k2 := qw_cell (HQ.out.cell (hI2 i hlt))
        have n0 := qw_some wr
        obtain ⟨x, hx⟩ : ∃ x, L.getD i 0 = x := ⟨_, rfl⟩
        obtain ⟨y, hy⟩ : ∃ y, M.getD i 0 = y := ⟨_, rfl⟩
        rw [hx] at k1
        rw [hy] at k2
        have HX : Hid (L.getD i 0 = x ∧ M.getD i 0 = y) := ⟨hx, hy⟩
        clear hx hy hI1 hI2 e2 f2
        go_wp2_with fail
        refine wp_region_quiet_Q (by kernel_rfl) (by kernel_rfl) ?_
        repeat (first | go_big_quiet_step (fail) | quiet_step (fail))
        refine wpQuiet_nil ?_
        intro w4 hw'
        have HQ4 : Hid (Q w w4) := HQ.out.trans (qw_out hw')
        clear hw' k1 k2 n0
        by_cases hxy : x = y
        · subst hxy
          have HS2 : Hid (∀ j, j < i + 1 → L.getD j 0 = M.getD j 0) := fun j hj => by
            by_cases e : j = i
            · subst e; rw [HX.out.1, HX.out.2]
            · exact HS.out j (by omega)
          go_wp2_with fail
          go_roundg (N - (i + 1))
          case measure => go_light; omega
          case rel => go_light; exact ⟨i + 1, by simp, by omega, rfl, HS2, HQ4⟩
        · have hxy' : (x == y) = false := by simpa using hxy
          have HF : Hid (B = false) := by
            show B = false
            rw [← HB.out, decide_eq_false_iff_not]
            intro e
            rw [e] at HX
            exact hxy (HX.out.1.symm.trans HX.out.2)
          clear HX
          go_wp2_with fail
          go_ret
          exact ⟨by rw [HF.out]; rfl, HQ4.out⟩
      · have hge : ¬ (i : Int) < (N : Int) := by omega
        obtain rfl : i = N := by omega
        have HF : Hid (B = true) := by
          show B = true
          rw [← HB.out, decide_eq_true_iff]
          apply List.ext_getElem?
          intro j
          by_cases hj : j < i
          · have := HS.out j hj
            rw [List.getD_eq_getElem?_getD, List.getD_eq_getElem?_getD, List.getElem?_eq_getElem (by have := HV.out.2; omega), List.getElem?_eq_getElem (by have := HU.out.2; omega)] at this
            rw [List.getElem?_eq_getElem (by have := HV.out.2; omega), List.getElem?_eq_getElem (by have := HU.out.2; omega)]
            exact congrArg some this
          · rw [List.getElem?_eq_none (by have := HV.out.2; omega), List.getElem?_eq_none (by have := HU.out.2; omega)]
        go_wp2_with fail
        go_ret
        exact ⟨by rw [HF.out]; rfl, HQ.out⟩
  · rw [decide_eq_false (fun e => hl (by rw [e]))]
    have hl' : ((L.length : Int) == (M.length : Int)) = false := by simp; omega
    have hl'' : ¬ (L.length : Int) = (M.length : Int) := by omega
    clear hv hu hl
    generalize L.length = a at *
    generalize M.length = b at *
    go_enter Try.func11, Try.ntmps11
    go_wp2_with fail
    go_ret
    exact ⟨rfl, Q.refl w⟩
end Go.Proofs.Ytedaacddnahjkaa
/- blur: Gradient. -/
namespace Go.Proofs.Ytedaacddnahjkaa
open Go.RowKit
set_option linter.unusedVariables false
set_option linter.unusedSimpArgs false

def grE (pw ph : Int) (n : Nat) (bd : Int) : Int := if chk pw ph n = 0 then borE bd 1 else chk pw ph n
set_option maxHeartbeats 4000000 in
set_option maxRecDepth 100000 in
theorem grad_bad (pw ph : Int) (ad : Option Addr) (n c : Nat) (bd : Int) (hn : n ≤ 9223372036854775807) (hE : grE pw ph n bd ≠ 0) (w : World) :
    Calls Try.prog 21 #[.agg #[.int .i64 pw, .int .i64 ph, .slice ad n c], .int .i64 bd] w fun e w' => e = .returned (.tuple #[.agg #[.int .i64 0, .int .i64 0, .slice none 0 0], .agg #[.int .i64 0, .int .i64 0, .slice none 0 0], .int .i64 (grE pw ph n bd)]) ∧ Q w w' := by
  obtain ⟨w1, hw1⟩ : ∃ w1, ((w.alloc (.cells #[.int .i64 pw, .int .i64 ph, .slice ad n c] 43)).alloc (.cells #[.int .i64 0, .int .i64 0, .slice none 0 0] 43)).alloc (.cells #[.int .i64 0, .int .i64 0, .slice none 0 0] 43) = w1 := ⟨_, rfl⟩
  have q1 : Q w w1 := by rw [← hw1]; exact (((Q.refl w).cells _ _).cells _ _).cells _ _
  have k0 : w1.cell? ⟨w.heap.size, 0, none⟩ = some (.int .i64 pw) := by rw [← hw1]; simp [go_sem]
  have k1 : w1.cell? ⟨w.heap.size, 1, none⟩ = some (.int .i64 ph) := by rw [← hw1]; simp [go_sem]
  have k2 : w1.cell? ⟨w.heap.size, 2, none⟩ = some (.slice ad n c) := by rw [← hw1]; simp [go_sem]
  have HR : Hid (w1.cell? ⟨w.heap.size + 1, 0, none⟩ = some (.int .i64 0) ∧ w1.cell? ⟨w.heap.size + 1, 1, none⟩ = some (.int .i64 0) ∧ w1.cell? ⟨w.heap.size + 1, 2, none⟩ = some (.slice none 0 0) ∧ (∀ j, w1.frozen? ⟨w.heap.size + 1, j, none⟩ = false) ∧ w1.cell? ⟨w.heap.size + 2, 0, none⟩ = some (.int .i64 0) ∧ w1.cell? ⟨w.heap.size + 2, 1, none⟩ = some (.int .i64 0) ∧ w1.cell? ⟨w.heap.size + 2, 2, none⟩ = some (.slice none 0 0) ∧ (∀ j, w1.frozen? ⟨w.heap.size + 2, j, none⟩ = false) ∧ w1.heap.size = w.heap.size + 3) := by
    rw [← hw1]
    exact ⟨by simp [go_sem], by simp [go_sem], by simp [go_sem], fun j => by simp [go_sem], by simp [go_sem], by simp [go_sem], by simp [go_sem], fun j => by simp [go_sem], by simp⟩
  have HQ1 : Hid (Q w w1) := q1
  have C1 := check_any pw ph ad n c hn w1
  by_cases hc : chk pw ph n = 0
  rotate_left
  · have hb : grE pw ph n bd = chk pw ph n := by unfold grE; rw [if_neg hc]
    rw [hb]
    generalize chk pw ph n = E at *
    have hE0 : (E != 0) = true := by simpa using hc
    clear hE hb q1
    go_enter Try.func21, Try.ntmps21
    go_wp2_with fail
    refine C1.mono ?_
    rintro e w2 ⟨rfl, q2⟩
    clear C1 k0 k1 k2 hw1
    have o0 := q2.cell HR.out.1
    have o1 := q2.cell HR.out.2.1
    have o2 := q2.cell HR.out.2.2.1
    have p0 := q2.cell HR.out.2.2.2.2.1
    have p1 := q2.cell HR.out.2.2.2.2.2.1
    have p2 := q2.cell HR.out.2.2.2.2.2.2.1
    have fo : ∀ j, w2.frozen? ⟨w.heap.size + 1, j, none⟩ = false := fun j => by rw [q2.2]; exact HR.out.2.2.2.1 j
    have fp : ∀ j, w2.frozen? ⟨w.heap.size + 2, j, none⟩ = false := fun j => by rw [q2.2]; exact HR.out.2.2.2.2.2.2.2.1 j
    have fo0 := fo 0
    have fo1 := fo 1
    have fo2 := fo 2
    have fp0 := fp 0
    have fp1 := fp 1
    have fp2 := fp 2
    have HZ : Hid (Q w (((((((w2).setCell ⟨w.heap.size + 1, 0, none⟩ (.int .i64 0)).setCell ⟨w.heap.size + 1, 1, none⟩ (.int .i64 0)).setCell ⟨w.heap.size + 1, 2, none⟩ (.slice none 0 0)).setCell ⟨w.heap.size + 2, 0, none⟩ (.int .i64 0)).setCell ⟨w.heap.size + 2, 1, none⟩ (.int .i64 0)).setCell ⟨w.heap.size + 2, 2, none⟩ (.slice none 0 0))) := by
      have h1 : w.heap.size ≤ w.heap.size + 1 := by omega
      have h2 : w.heap.size ≤ w.heap.size + 2 := by omega
      exact ((((((HQ1.out.trans q2).set h1 _).set h1 _).set h1 _).set h2 _).set h2 _).set h2 _
    clear fo fp
    go_wp2_with fail
    exact bodyPost_ret (v := .tuple #[.agg #[.int .i64 0, .int .i64 0, .slice none 0 0], .agg #[.int .i64 0, .int .i64 0, .slice none 0 0], .int .i64 E]) (by simp [results, Try.results21, go_sem, o0, o1, o2, p0, p1, p2]) rfl ⟨rfl, HZ.out⟩
  rw [hc] at C1
  have hb : grE pw ph n bd = borE bd 1 := by unfold grE; rw [if_pos hc]
  rw [hb] at hE ⊢
  have HF : Hid (∀ x : World, Calls Try.prog 38 #[.int .i64 bd] x fun e w' => e = .returned (.int .i64 (borE bd 1)) ∧ w' = x) := fun x => refusal_b bd x
  generalize borE bd 1 = E at *
  have hE0 : (E != 0) = true := by simpa using hE
  clear hE hb q1 hc
  go_enter Try.func21, Try.ntmps21
  go_wp2_with fail
  refine C1.mono ?_
  rintro e w2 ⟨rfl, q2⟩
  clear C1 k0 k1 k2 hw1
  go_wp2_with fail
  refine (HF.out w2).mono ?_
  rintro e w4 ⟨rfl, hw4⟩
  obtain rfl := hw4.symm
  clear hw4
  have o0 := q2.cell HR.out.1
  have o1 := q2.cell HR.out.2.1
  have o2 := q2.cell HR.out.2.2.1
  have p0 := q2.cell HR.out.2.2.2.2.1
  have p1 := q2.cell HR.out.2.2.2.2.2.1
  have p2 := q2.cell HR.out.2.2.2.2.2.2.1
  have fo : ∀ j, w2.frozen? ⟨w.heap.size + 1, j, none⟩ = false := fun j => by rw [q2.2]; exact HR.out.2.2.2.1 j
  have fp : ∀ j, w2.frozen? ⟨w.heap.size + 2, j, none⟩ = false := fun j => by rw [q2.2]; exact HR.out.2.2.2.2.2.2.2.1 j
  have fo0 := fo 0
  have fo1 := fo 1
  have fo2 := fo 2
  have fp0 := fp 0
  have fp1 := fp 1
  have fp2 := fp 2
  have HZ : Hid (Q w (((((((w2).setCell ⟨w.heap.size + 1, 0, none⟩ (.int .i64 0)).setCell ⟨w.heap.size + 1, 1, none⟩ (.int .i64 0)).setCell ⟨w.heap.size + 1, 2, none⟩ (.slice none 0 0)).setCell ⟨w.heap.size + 2, 0, none⟩ (.int .i64 0)).setCell ⟨w.heap.size + 2, 1, none⟩ (.int .i64 0)).setCell ⟨w.heap.size + 2, 2, none⟩ (.slice none 0 0))) := by
    have h1 : w.heap.size ≤ w.heap.size + 1 := by omega
    have h2 : w.heap.size ≤ w.heap.size + 2 := by omega
    exact ((((((HQ1.out.trans q2).set h1 _).set h1 _).set h1 _).set h2 _).set h2 _).set h2 _
  clear fo fp
  go_wp2_with fail
  exact bodyPost_ret (v := .tuple #[.agg #[.int .i64 0, .int .i64 0, .slice none 0 0], .agg #[.int .i64 0, .int .i64 0, .slice none 0 0], .int .i64 E]) (by simp [results, Try.results21, go_sem, o0, o1, o2, p0, p1, p2]) rfl ⟨rfl, HZ.out⟩
set_option maxHeartbeats 8000000 in
set_option maxRecDepth 100000 in
theorem grad_good (k pa pb g0 o0 c n : Nat) (S : List Nat) (w : World) (hsz : Size pa pb) (hnn : n = pa * pb) (hS : S.length = n) (hb : ∀ i, S.getD i 0 < 4294967296) (hI : UIs w g0 o0 S) (hk : k = 1 ∨ k = 2 ∨ k = 3) :
    Calls Try.prog 21 #[.agg #[.int .i64 (pa : Int), .int .i64 (pb : Int), .slice (some ⟨g0, o0, none⟩) n c], .int .i64 (k : Int)] w fun e w' => ∃ gt gu, e = .returned (.tuple #[.agg #[.int .i64 (pa : Int), .int .i64 (pb : Int), .slice (some ⟨gt, 0, none⟩) n n], .agg #[.int .i64 (pa : Int), .int .i64 (pb : Int), .slice (some ⟨gu, 0, none⟩) n n], .int .i64 0]) ∧ VR w' gt n (fun j => .int .u32 ((rowB slpV 1 k pa S j : Nat) : Int)) ∧ VR w' gu n (fun j => .int .u32 ((colB slpV 1 k pa pb S j : Nat) : Int)) ∧ gt ≠ gu ∧ w.heap.size ≤ gt ∧ w.heap.size ≤ gu ∧ Q w w' := by
  have hn : n ≤ 9223372036854775807 := by have := hsz.ab; omega
  obtain ⟨w1, hw1⟩ : ∃ w1, ((w.alloc (.cells #[.int .i64 (pa : Int), .int .i64 (pb : Int), .slice (some ⟨g0, o0, none⟩) n c] 43)).alloc (.cells #[.int .i64 0, .int .i64 0, .slice none 0 0] 43)).alloc (.cells #[.int .i64 0, .int .i64 0, .slice none 0 0] 43) = w1 := ⟨_, rfl⟩
  have q1 : Q w w1 := by rw [← hw1]; exact (((Q.refl w).cells _ _).cells _ _).cells _ _
  have k0 : w1.cell? ⟨w.heap.size, 0, none⟩ = some (.int .i64 (pa : Int)) := by rw [← hw1]; simp [go_sem]
  have k1 : w1.cell? ⟨w.heap.size, 1, none⟩ = some (.int .i64 (pb : Int)) := by rw [← hw1]; simp [go_sem]
  have k2 : w1.cell? ⟨w.heap.size, 2, none⟩ = some (.slice (some ⟨g0, o0, none⟩) n c) := by rw [← hw1]; simp [go_sem]
  have HR : Hid (w1.cell? ⟨w.heap.size + 1, 0, none⟩ = some (.int .i64 0) ∧ w1.cell? ⟨w.heap.size + 1, 1, none⟩ = some (.int .i64 0) ∧ w1.cell? ⟨w.heap.size + 1, 2, none⟩ = some (.slice none 0 0) ∧ (∀ j, w1.frozen? ⟨w.heap.size + 1, j, none⟩ = false) ∧ w1.cell? ⟨w.heap.size + 2, 0, none⟩ = some (.int .i64 0) ∧ w1.cell? ⟨w.heap.size + 2, 1, none⟩ = some (.int .i64 0) ∧ w1.cell? ⟨w.heap.size + 2, 2, none⟩ = some (.slice none 0 0) ∧ (∀ j, w1.frozen? ⟨w.heap.size + 2, j, none⟩ = false) ∧ w1.heap.size = w.heap.size + 3) := by
    rw [← hw1]
    exact ⟨by simp [go_sem], by simp [go_sem], by simp [go_sem], fun j => by simp [go_sem], by simp [go_sem], by simp [go_sem], by simp [go_sem], fun j => by simp [go_sem], by simp⟩
  have HQ1 : Hid (Q w w1) := q1
  have C1 := check_any pa pb (some ⟨g0, o0, none⟩) n c hn w1
  rw [show chk (pa : Int) (pb : Int) n = 0 by rw [hnn]; exact chk_size hsz] at C1
  have HF : Hid (∀ x : World, Calls Try.prog 38 #[.int .i64 (k : Int)] x fun e w' => e = .returned (.int .i64 0) ∧ w' = x) := fun x => by
    have := refusal_b k x
    rw [borE_one, if_pos (by omega)] at this
    exact this
  have HMX : Hid (∀ w5 : World, ∀ (x : World) (h o c : Nat) (X Sx : Nat → Nat), Q w5 x → 2 * 1 + 1 ≤ c → (∀ i, i < 2 * 1 + 1 → x.cell? ⟨h, o + i, none⟩ = some (.float .f64 (X i))) → (∀ i, i < 2 * 1 + 1 → NumX (Sx i) (X i)) → Calls Try.prog 45 (#[] ++ #[.slice (some ⟨h, o, none⟩) (2 * 1 + 1) c]) x fun e w' => e = .returned (.int .u32 (slpV Sx : Nat)) ∧ Q x w') := fun w5 x h o c X Sx q hc hX hN => slope_any h o c X Sx x hc hX hN
  have HSZ : Hid (Size pa pb ∧ n = pa * pb ∧ S.length = n ∧ (∀ i, S.getD i 0 < 4294967296) ∧ (∀ x, Q w x → UIs x g0 o0 S) ∧ (k = 1 ∨ k = 2 ∨ k = 3)) := ⟨hsz, hnn, hS, hb, fun x q => hI.next q, hk⟩
  have HK : Hid (w1.cell? ⟨w.heap.size, 0, none⟩ = some (.int .i64 (pa : Int)) ∧ w1.cell? ⟨w.heap.size, 1, none⟩ = some (.int .i64 (pb : Int)) ∧ w1.cell? ⟨w.heap.size, 2, none⟩ = some (.slice (some ⟨g0, o0, none⟩) n c)) := ⟨k0, k1, k2⟩
  have HEN : Hid ((∀ (args : Array Value) (x : World), (callFunc 45 args).run Try.prog x = .ok (.enter 45 args) x) ∧ (∀ (args : Array Value) (x : World), (callFunc 41 args).run Try.prog x = .ok (.enter 41 args) x)) := ⟨enters_of Try.func45 (by kernel_rfl) rfl, enters_of Try.func41 (by kernel_rfl) rfl⟩
  clear hsz hnn hS hb hI hk hn q1
  go_enter Try.func21, Try.ntmps21
  go_wp2_with fail
  refine C1.mono ?_
  rintro e w2 ⟨rfl, q2⟩
  clear C1 k0 k1 k2 hw1
  go_wp2_with fail
  refine (HF.out w2).mono ?_
  rintro e w4 ⟨rfl, hw4⟩
  obtain rfl := hw4.symm
  clear hw4
  obtain ⟨w6, hw6⟩ : ∃ w6, w2.alloc (.cells #[.int .i64 1, .int .i64 (k : Int), .func (.func 45) #[] #[]] 87) = w6 := ⟨_, rfl⟩
  have q26 : Q w2 w6 := by rw [← hw6]; exact (Q.refl w2).cells _ _
  have q16 : Q w1 w6 := q2.trans q26
  have s0 : w6.cell? ⟨w2.heap.size, 0, none⟩ = some (.int .i64 1) := by rw [← hw6]; simp [go_sem]
  have s1 : w6.cell? ⟨w2.heap.size, 1, none⟩ = some (.int .i64 (k : Int)) := by rw [← hw6]; simp [go_sem]
  have s2 : w6.cell? ⟨w2.heap.size, 2, none⟩ = some (.func (.func 45) #[] #[]) := by rw [← hw6]; simp [go_sem]
  have p0 := q16.cell HK.out.1
  have p1 := q16.cell HK.out.2.1
  have p2 := q16.cell HK.out.2.2
  have HV6 : Hid (Q w1 w6) := q16
  clear q26 q16 q2
  go_wp2_with fail
  have n0 := qw_some w6
  have f0 := qw_cell s0
  have f1 := qw_cell s1
  have f2 := qw_cell s2
  have f3 := qw_cell p0
  have f4 := qw_cell p1
  have f5 := qw_cell p2
  clear hw6
  refine wp_region_mk [0, 1, 2, 3, 5, 6, 7, 8] [[4, 9, 10, 11, 12]] 5 _ (by kernel_rfl) (by kernel_rfl) rfl (by kernel_rfl) ?_
  simp only [List.filterMap_cons, List.filterMap_nil, List.getElem?_cons_zero, List.getElem?_cons_succ]
  repeat (first | go_big_quiet_step (fail) | quiet_step (fail))
  refine wpQuiet_nil ?_
  intro x7 hx7
  clear n0 f0 f1 f2 f3 f4 f5 s0 s1 s2 p0 p1 p2
  have z := HSZ.out
  have q17 : Q w x7 := (HQ1.out.trans HV6.out).trans hx7
  have CR := along_rows 1 k 45 pa pb g0 o0 c n #[] slpV S x7 z.1 z.2.1 z.2.2.1 z.2.2.2.1 (z.2.2.2.2.1 x7 q17) (by decide) z.2.2.2.2.2 HEN.out.1 (HMX.out x7)
  refine tree_call 4 rfl rfl (run_fn 41 #[.tmp 26, .tmp 28, .tmp 29] _ rfl HEN.out.2 (vs := #[.agg #[.int .i64 1, .int .i64 (k : Int), .func (.func 45) #[] #[]], .iface 91 (.agg #[]), .agg #[.int .i64 (pa : Int), .int .i64 (pb : Int), .slice (some ⟨g0, o0, none⟩) n c]]) (by simp [Act.eval, Act.put])) CR ?_
  rintro u x8 ⟨⟨gt, rfl, hv8, hl8, hu8⟩, hq8⟩
  refine ⟨hx7.trans hq8, ?_⟩
  have CC := along_columns 1 k 45 pa pb g0 o0 c n #[] slpV S x8 z.1 z.2.1 z.2.2.1 z.2.2.2.1 (z.2.2.2.2.1 x8 (q17.trans hq8)) (by decide) z.2.2.2.2.2 HEN.out.1 (HMX.out x8)
  refine tree_call 9 rfl rfl (run_fn 41 #[.tmp 31, .tmp 33, .tmp 34] _ rfl HEN.out.2 (vs := #[.agg #[.int .i64 1, .int .i64 (k : Int), .func (.func 45) #[] #[]], .iface 90 (.agg #[]), .agg #[.int .i64 (pa : Int), .int .i64 (pb : Int), .slice (some ⟨g0, o0, none⟩) n c]]) (by simp [Act.eval, Act.put])) CC ?_
  rintro u x9 ⟨⟨gu, rfl, hv9, hl9, hu9⟩, hq9⟩
  have q69 : Q w6 x9 := (hx7.trans hq8).trans hq9
  refine ⟨q69, ?_⟩
  have q19 : Q w1 x9 := HV6.out.trans q69
  have HX : Hid (VR x9 gt n (fun j => .int .u32 ((rowB slpV 1 k pa S j : Nat) : Int)) ∧ VR x9 gu n (fun j => .int .u32 ((colB slpV 1 k pa pb S j : Nat) : Int)) ∧ gt < gu ∧ w.heap.size + 3 ≤ gt ∧ Q w1 x9) := by
    have h1 := HR.out.2.2.2.2.2.2.2.2
    have h2 := HV6.out.1.size
    have h3 := hx7.1.size
    exact ⟨hv8.next hq9, hv9, by omega, by omega, q19⟩
  have a0 := q19.cell HR.out.1
  have a1 := q19.cell HR.out.2.1
  have a2 := q19.cell HR.out.2.2.1
  have b0 := q19.cell HR.out.2.2.2.2.1
  have b1 := q19.cell HR.out.2.2.2.2.2.1
  have b2 := q19.cell HR.out.2.2.2.2.2.2.1
  have fa : ∀ j, x9.frozen? ⟨w.heap.size + 1, j, none⟩ = false := fun j => by rw [q19.2]; exact HR.out.2.2.2.1 j
  have fb : ∀ j, x9.frozen? ⟨w.heap.size + 2, j, none⟩ = false := fun j => by rw [q19.2]; exact HR.out.2.2.2.2.2.2.2.1 j
  have c0 : ((((x9).setCell ⟨w.heap.size + 1, 0, none⟩ (.int .i64 (pa : Int))).setCell ⟨w.heap.size + 1, 1, none⟩ (.int .i64 (pb : Int))).setCell ⟨w.heap.size + 1, 2, none⟩ (.slice (some ⟨gt, 0, none⟩) n n)).cell? ⟨w.heap.size + 2, 0, none⟩ = some (.int .i64 0) := (World.cell?_setCell_other _ _ _ _ (fun e => by injection e with e; omega)).trans ((World.cell?_setCell_other _ _ _ _ (fun e => by injection e with e; omega)).trans ((World.cell?_setCell_other _ _ _ _ (fun e => by injection e with e; omega)).trans b0))
  have c1 : ((((x9).setCell ⟨w.heap.size + 1, 0, none⟩ (.int .i64 (pa : Int))).setCell ⟨w.heap.size + 1, 1, none⟩ (.int .i64 (pb : Int))).setCell ⟨w.heap.size + 1, 2, none⟩ (.slice (some ⟨gt, 0, none⟩) n n)).cell? ⟨w.heap.size + 2, 1, none⟩ = some (.int .i64 0) := (World.cell?_setCell_other _ _ _ _ (fun e => by injection e with e; omega)).trans ((World.cell?_setCell_other _ _ _ _ (fun e => by injection e with e; omega)).trans ((World.cell?_setCell_other _ _ _ _ (fun e => by injection e with e; omega)).trans b1))
  have c2 : ((((x9).setCell ⟨w.heap.size + 1, 0, none⟩ (.int .i64 (pa : Int))).setCell ⟨w.heap.size + 1, 1, none⟩ (.int .i64 (pb : Int))).setCell ⟨w.heap.size + 1, 2, none⟩ (.slice (some ⟨gt, 0, none⟩) n n)).cell? ⟨w.heap.size + 2, 2, none⟩ = some (.slice none 0 0) := (World.cell?_setCell_other _ _ _ _ (fun e => by injection e with e; omega)).trans ((World.cell?_setCell_other _ _ _ _ (fun e => by injection e with e; omega)).trans ((World.cell?_setCell_other _ _ _ _ (fun e => by injection e with e; omega)).trans b2))
  have fc : ∀ j, ((((x9).setCell ⟨w.heap.size + 1, 0, none⟩ (.int .i64 (pa : Int))).setCell ⟨w.heap.size + 1, 1, none⟩ (.int .i64 (pb : Int))).setCell ⟨w.heap.size + 1, 2, none⟩ (.slice (some ⟨gt, 0, none⟩) n n)).frozen? ⟨w.heap.size + 2, j, none⟩ = false := fun j => by rw [World.frozen?_setCell, World.frozen?_setCell, World.frozen?_setCell]; exact fb j
  refine tree_skipF 10 rfl rfl rfl (x' := (((x9).setCell ⟨w.heap.size + 1, 0, none⟩ (.int .i64 (pa : Int))).setCell ⟨w.heap.size + 1, 1, none⟩ (.int .i64 (pb : Int))).setCell ⟨w.heap.size + 1, 2, none⟩ (.slice (some ⟨gt, 0, none⟩) n n)) (by simp [execOp, go_sem, Act.put, a0, a1, a2, fa]) ?_
  have d0 : ((((x9).setCell ⟨w.heap.size + 1, 0, none⟩ (.int .i64 (pa : Int))).setCell ⟨w.heap.size + 1, 1, none⟩ (.int .i64 (pb : Int))).setCell ⟨w.heap.size + 1, 2, none⟩ (.slice (some ⟨gt, 0, none⟩) n n)).cell? ⟨w.heap.size + 1, 0, none⟩ = some (.int .i64 (pa : Int)) := (World.cell?_setCell_other _ _ _ _ (fun e => by injection e with _ e; cases e)).trans ((World.cell?_setCell_other _ _ _ _ (fun e => by injection e with _ e; cases e)).trans (World.cell?_setCell_same _ _ _ a0))
  have d1 : ((((x9).setCell ⟨w.heap.size + 1, 0, none⟩ (.int .i64 (pa : Int))).setCell ⟨w.heap.size + 1, 1, none⟩ (.int .i64 (pb : Int))).setCell ⟨w.heap.size + 1, 2, none⟩ (.slice (some ⟨gt, 0, none⟩) n n)).cell? ⟨w.heap.size + 1, 1, none⟩ = some (.int .i64 (pb : Int)) := (World.cell?_setCell_other _ _ _ _ (fun e => by injection e with _ e; cases e)).trans (World.cell?_setCell_same _ _ _ ((World.cell?_setCell_other _ _ _ _ (fun e => by injection e with _ e; cases e)).trans a1))
  have d2 : ((((x9).setCell ⟨w.heap.size + 1, 0, none⟩ (.int .i64 (pa : Int))).setCell ⟨w.heap.size + 1, 1, none⟩ (.int .i64 (pb : Int))).setCell ⟨w.heap.size + 1, 2, none⟩ (.slice (some ⟨gt, 0, none⟩) n n)).cell? ⟨w.heap.size + 1, 2, none⟩ = some (.slice (some ⟨gt, 0, none⟩) n n) := World.cell?_setCell_same _ _ _ ((World.cell?_setCell_other _ _ _ _ (fun e => by injection e with _ e; cases e)).trans ((World.cell?_setCell_other _ _ _ _ (fun e => by injection e with _ e; cases e)).trans a2))
  have HX1 : Hid (VR ((((x9).setCell ⟨w.heap.size + 1, 0, none⟩ (.int .i64 (pa : Int))).setCell ⟨w.heap.size + 1, 1, none⟩ (.int .i64 (pb : Int))).setCell ⟨w.heap.size + 1, 2, none⟩ (.slice (some ⟨gt, 0, none⟩) n n)) gt n (fun j => .int .u32 ((rowB slpV 1 k pa S j : Nat) : Int)) ∧ VR ((((x9).setCell ⟨w.heap.size + 1, 0, none⟩ (.int .i64 (pa : Int))).setCell ⟨w.heap.size + 1, 1, none⟩ (.int .i64 (pb : Int))).setCell ⟨w.heap.size + 1, 2, none⟩ (.slice (some ⟨gt, 0, none⟩) n n)) gu n (fun j => .int .u32 ((colB slpV 1 k pa pb S j : Nat) : Int)) ∧ Q w ((((x9).setCell ⟨w.heap.size + 1, 0, none⟩ (.int .i64 (pa : Int))).setCell ⟨w.heap.size + 1, 1, none⟩ (.int .i64 (pb : Int))).setCell ⟨w.heap.size + 1, 2, none⟩ (.slice (some ⟨gt, 0, none⟩) n n))) := by
    have hl' : w.heap.size ≤ w.heap.size + 1 := by omega
    have e1 : w.heap.size + 1 ≠ gt := by have := HX.out.2.2.2.1; omega
    have e2 : w.heap.size + 1 ≠ gu := by have := HX.out.2.2; omega
    exact ⟨((HX.out.1.other (p := ⟨w.heap.size + 1, 0, none⟩) e1 _).other (p := ⟨w.heap.size + 1, 1, none⟩) e1 _).other (p := ⟨w.heap.size + 1, 2, none⟩) e1 _, ((HX.out.2.1.other (p := ⟨w.heap.size + 1, 0, none⟩) e2 _).other (p := ⟨w.heap.size + 1, 1, none⟩) e2 _).other (p := ⟨w.heap.size + 1, 2, none⟩) e2 _, (((HQ1.out.trans q19).set hl' _).set hl' _).set hl' _⟩
  have HG : Hid (gt < gu ∧ w.heap.size + 3 ≤ gt) := ⟨HX.out.2.2.1, HX.out.2.2.2.1⟩
  generalize (((x9).setCell ⟨w.heap.size + 1, 0, none⟩ (.int .i64 (pa : Int))).setCell ⟨w.heap.size + 1, 1, none⟩ (.int .i64 (pb : Int))).setCell ⟨w.heap.size + 1, 2, none⟩ (.slice (some ⟨gt, 0, none⟩) n n) = y9 at c0 c1 c2 fc d0 d1 d2 HX1 ⊢
  refine tree_skipF 11 rfl rfl rfl (x' := (((y9).setCell ⟨w.heap.size + 2, 0, none⟩ (.int .i64 (pa : Int))).setCell ⟨w.heap.size + 2, 1, none⟩ (.int .i64 (pb : Int))).setCell ⟨w.heap.size + 2, 2, none⟩ (.slice (some ⟨gu, 0, none⟩) n n)) (by simp [execOp, go_sem, Act.put, c0, c1, c2, fc]) ?_
  refine tree_runF 12 rfl rfl rfl (v := .int .i64 0) (x' := (((y9).setCell ⟨w.heap.size + 2, 0, none⟩ (.int .i64 (pa : Int))).setCell ⟨w.heap.size + 2, 1, none⟩ (.int .i64 (pb : Int))).setCell ⟨w.heap.size + 2, 2, none⟩ (.slice (some ⟨gu, 0, none⟩) n n)) (by simp [execOp, go_sem, Act.put]) ?_
  refine tree_nil ?_
  have e0 : ((((y9).setCell ⟨w.heap.size + 2, 0, none⟩ (.int .i64 (pa : Int))).setCell ⟨w.heap.size + 2, 1, none⟩ (.int .i64 (pb : Int))).setCell ⟨w.heap.size + 2, 2, none⟩ (.slice (some ⟨gu, 0, none⟩) n n)).cell? ⟨w.heap.size + 2, 0, none⟩ = some (.int .i64 (pa : Int)) := (World.cell?_setCell_other _ _ _ _ (fun e => by injection e with _ e; cases e)).trans ((World.cell?_setCell_other _ _ _ _ (fun e => by injection e with _ e; cases e)).trans (World.cell?_setCell_same _ _ _ c0))
  have e1 : ((((y9).setCell ⟨w.heap.size + 2, 0, none⟩ (.int .i64 (pa : Int))).setCell ⟨w.heap.size + 2, 1, none⟩ (.int .i64 (pb : Int))).setCell ⟨w.heap.size + 2, 2, none⟩ (.slice (some ⟨gu, 0, none⟩) n n)).cell? ⟨w.heap.size + 2, 1, none⟩ = some (.int .i64 (pb : Int)) := (World.cell?_setCell_other _ _ _ _ (fun e => by injection e with _ e; cases e)).trans (World.cell?_setCell_same _ _ _ ((World.cell?_setCell_other _ _ _ _ (fun e => by injection e with _ e; cases e)).trans c1))
  have e2 : ((((y9).setCell ⟨w.heap.size + 2, 0, none⟩ (.int .i64 (pa : Int))).setCell ⟨w.heap.size + 2, 1, none⟩ (.int .i64 (pb : Int))).setCell ⟨w.heap.size + 2, 2, none⟩ (.slice (some ⟨gu, 0, none⟩) n n)).cell? ⟨w.heap.size + 2, 2, none⟩ = some (.slice (some ⟨gu, 0, none⟩) n n) := World.cell?_setCell_same _ _ _ ((World.cell?_setCell_other _ _ _ _ (fun e => by injection e with _ e; cases e)).trans ((World.cell?_setCell_other _ _ _ _ (fun e => by injection e with _ e; cases e)).trans c2))
  have g0' : ((((y9).setCell ⟨w.heap.size + 2, 0, none⟩ (.int .i64 (pa : Int))).setCell ⟨w.heap.size + 2, 1, none⟩ (.int .i64 (pb : Int))).setCell ⟨w.heap.size + 2, 2, none⟩ (.slice (some ⟨gu, 0, none⟩) n n)).cell? ⟨w.heap.size + 1, 0, none⟩ = some (.int .i64 (pa : Int)) := (World.cell?_setCell_other _ _ _ _ (fun e => by injection e with e; omega)).trans ((World.cell?_setCell_other _ _ _ _ (fun e => by injection e with e; omega)).trans ((World.cell?_setCell_other _ _ _ _ (fun e => by injection e with e; omega)).trans d0))
  have g1' : ((((y9).setCell ⟨w.heap.size + 2, 0, none⟩ (.int .i64 (pa : Int))).setCell ⟨w.heap.size + 2, 1, none⟩ (.int .i64 (pb : Int))).setCell ⟨w.heap.size + 2, 2, none⟩ (.slice (some ⟨gu, 0, none⟩) n n)).cell? ⟨w.heap.size + 1, 1, none⟩ = some (.int .i64 (pb : Int)) := (World.cell?_setCell_other _ _ _ _ (fun e => by injection e with e; omega)).trans ((World.cell?_setCell_other _ _ _ _ (fun e => by injection e with e; omega)).trans ((World.cell?_setCell_other _ _ _ _ (fun e => by injection e with e; omega)).trans d1))
  have g2' : ((((y9).setCell ⟨w.heap.size + 2, 0, none⟩ (.int .i64 (pa : Int))).setCell ⟨w.heap.size + 2, 1, none⟩ (.int .i64 (pb : Int))).setCell ⟨w.heap.size + 2, 2, none⟩ (.slice (some ⟨gu, 0, none⟩) n n)).cell? ⟨w.heap.size + 1, 2, none⟩ = some (.slice (some ⟨gt, 0, none⟩) n n) := (World.cell?_setCell_other _ _ _ _ (fun e => by injection e with e; omega)).trans ((World.cell?_setCell_other _ _ _ _ (fun e => by injection e with e; omega)).trans ((World.cell?_setCell_other _ _ _ _ (fun e => by injection e with e; omega)).trans d2))
  have HV : Hid (VR ((((y9).setCell ⟨w.heap.size + 2, 0, none⟩ (.int .i64 (pa : Int))).setCell ⟨w.heap.size + 2, 1, none⟩ (.int .i64 (pb : Int))).setCell ⟨w.heap.size + 2, 2, none⟩ (.slice (some ⟨gu, 0, none⟩) n n)) gt n (fun j => .int .u32 ((rowB slpV 1 k pa S j : Nat) : Int)) ∧ VR ((((y9).setCell ⟨w.heap.size + 2, 0, none⟩ (.int .i64 (pa : Int))).setCell ⟨w.heap.size + 2, 1, none⟩ (.int .i64 (pb : Int))).setCell ⟨w.heap.size + 2, 2, none⟩ (.slice (some ⟨gu, 0, none⟩) n n)) gu n (fun j => .int .u32 ((colB slpV 1 k pa pb S j : Nat) : Int)) ∧ Q w ((((y9).setCell ⟨w.heap.size + 2, 0, none⟩ (.int .i64 (pa : Int))).setCell ⟨w.heap.size + 2, 1, none⟩ (.int .i64 (pb : Int))).setCell ⟨w.heap.size + 2, 2, none⟩ (.slice (some ⟨gu, 0, none⟩) n n))) := by
    have hl' : w.heap.size ≤ w.heap.size + 2 := by omega
    have h1 : w.heap.size + 2 ≠ gt := by have := HG.out; omega
    have h2 : w.heap.size + 2 ≠ gu := by have := HG.out; omega
    exact ⟨((HX1.out.1.other (p := ⟨w.heap.size + 2, 0, none⟩) h1 _).other (p := ⟨w.heap.size + 2, 1, none⟩) h1 _).other (p := ⟨w.heap.size + 2, 2, none⟩) h1 _, ((HX1.out.2.1.other (p := ⟨w.heap.size + 2, 0, none⟩) h2 _).other (p := ⟨w.heap.size + 2, 1, none⟩) h2 _).other (p := ⟨w.heap.size + 2, 2, none⟩) h2 _, ((HX1.out.2.2.set hl' _).set hl' _).set hl' _⟩
  generalize (((y9).setCell ⟨w.heap.size + 2, 0, none⟩ (.int .i64 (pa : Int))).setCell ⟨w.heap.size + 2, 1, none⟩ (.int .i64 (pb : Int))).setCell ⟨w.heap.size + 2, 2, none⟩ (.slice (some ⟨gu, 0, none⟩) n n) = w9 at HV e0 e1 e2 g0' g1' g2' ⊢
  clear CR CC hv8 hv9 z fa fb fc HX1
  go_wp2_with fail
  have hg := HG.out
  exact bodyPost_ret (v := .tuple #[.agg #[.int .i64 (pa : Int), .int .i64 (pb : Int), .slice (some ⟨gt, 0, none⟩) n n], .agg #[.int .i64 (pa : Int), .int .i64 (pb : Int), .slice (some ⟨gu, 0, none⟩) n n], .int .i64 0]) (by simp [results, Try.results21, go_sem, e0, e1, e2, g0', g1', g2', Act.put]) rfl ⟨gt, gu, rfl, HV.out.1, HV.out.2.1, by omega, by omega, by omega, HV.out.2.2⟩
end Go.Proofs.Ytedaacddnahjkaa
