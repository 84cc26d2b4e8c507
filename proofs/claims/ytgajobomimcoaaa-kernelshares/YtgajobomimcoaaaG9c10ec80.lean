/- Taps held against one another. -/
import Derived.Test.YtgajobomimcoaaaGf60bbd67
import Derived.Test.YtgajobomimcoaaaG003bfc43
namespace Go.Proofs.Ytgajobomimcoaaa
open Go.RowKit
set_option linter.unusedVariables false
set_option linter.unusedSimpArgs false

/-- Taps in memory. -/
def TSl (w : World) (v : Value) (L : List (Int × Int)) : Prop := (∃ g o cap, v = .slice (some ⟨g, o, none⟩) L.length cap ∧ ∀ i e, L[i]? = some e → w.cell? ⟨g, o + i * 2, none⟩ = some (.int .i64 e.1) ∧ w.cell? ⟨g, o + i * 2 + 1, none⟩ = some (.int .i64 e.2)) ∨ (∃ a c, v = .slice a 0 c ∧ L = [])
theorem TSl.next {w w' : World} {v : Value} {l : List (Int × Int)} (h : TSl w v l) (q : Q w w') : TSl w' v l := by
  rcases h with ⟨g, o, cap, h1, h2⟩ | h
  · exact Or.inl ⟨g, o, cap, h1, fun i e hi => ⟨q.cell (h2 i e hi).1, q.cell (h2 i e hi).2⟩⟩
  · exact Or.inr h
theorem TSl.form {w : World} {v : Value} {l : List (Int × Int)} (h : TSl w v l) : ∃ a cap, v = .slice a l.length cap := by
  rcases h with ⟨g, o, cap, h1, h2⟩ | ⟨a, c, h1, h2⟩
  · exact ⟨_, _, h1⟩
  · subst h2; exact ⟨a, c, h1⟩
theorem TSl.some {w : World} {v : Value} {l : List (Int × Int)} (h : TSl w v l) (h1 : 1 ≤ l.length) : ∃ g o cap, v = .slice (some ⟨g, o, none⟩) l.length cap ∧ ∀ i e, l[i]? = some e → w.cell? ⟨g, o + i * 2, none⟩ = some (.int .i64 e.1) ∧ w.cell? ⟨g, o + i * 2 + 1, none⟩ = some (.int .i64 e.2) := by
  rcases h with h | ⟨_, _, _, h2⟩
  · exact h
  · subst h2; cases h1
theorem newsT_at {L : List (Int × Int)} : ∀ {i : Nat} {e : Int × Int}, L[i]? = some e → (newsT L)[i * 2]? = some (.int .i64 e.1) ∧ (newsT L)[i * 2 + 1]? = some (.int .i64 e.2) := by
  induction L with
  | nil => intro i e h; simp at h
  | cons a t ih =>
    intro i e h
    have hc : newsT (a :: t) = .int .i64 a.1 :: .int .i64 a.2 :: newsT t := rfl
    cases i with
    | zero => cases h; exact ⟨rfl, rfl⟩
    | succ i =>
      rw [List.getElem?_cons_succ] at h
      rw [hc, show (i + 1) * 2 = i * 2 + 1 + 1 by omega]
      simpa using ih h
theorem Tl.tsl {w0 wr : World} {v : Value} {L : List (Int × Int)} {n : Nat} (h : Tl w0 wr v L n) : TSl wr v L := by
  rcases h.o.2 with ⟨e1, e⟩ | ⟨g, c, cur, e1, _⟩
  · exact Or.inr ⟨_, _, e1, List.eq_nil_of_length_eq_zero (by rw [← h.len]; exact e)⟩
  · subst e1
    refine Or.inl ⟨g, 0, c, by rw [h.len], fun i e hi => ?_⟩
    have hlt := (List.getElem?_eq_some_iff.1 hi).1
    have hl := h.len
    obtain ⟨a1, a2⟩ := newsT_at hi
    rw [← h.o.cellAt (i * 2) (by omega)] at a1
    rw [← h.o.cellAt (i * 2 + 1) (by omega)] at a2
    exact ⟨by rw [Nat.zero_add]; exact a1, by rw [Nat.zero_add]; exact a2⟩
set_option maxHeartbeats 2000000 in
set_option maxRecDepth 100000 in
theorem same_any (v u : Value) (L M : List (Int × Int)) (w : World) (hv : TSl w v L) (hu : TSl w u M) (hn : L.length ≤ 100000) (hm : M.length ≤ 100000) :
    Calls Try.prog 12 #[v, u] w fun e w' => e = .returned (.bool (decide (L = M))) ∧ Q w w' := by
  obtain ⟨ad, c, rfl⟩ := hv.form
  obtain ⟨ad2, c2, rfl⟩ := hu.form
  by_cases hl : L.length = M.length
  · obtain ⟨B, hB⟩ : ∃ B, decide (L = M) = B := ⟨_, rfl⟩
    have HB : Hid (decide (L = M) = B) := hB
    rw [hB]
    obtain ⟨N, eN⟩ : ∃ N, L.length = N := ⟨_, rfl⟩
    have HV : Hid (TSl w (.slice ad N c) L ∧ L.length = N) := ⟨by rw [← eN]; exact hv, eN⟩
    have HU : Hid (TSl w (.slice ad2 N c2) M ∧ M.length = N) := ⟨by rw [← eN, hl]; exact hu, by rw [← eN, hl]⟩
    rw [← hl, eN]
    rw [eN] at hn
    clear hv hu hl eN hB hm
    go_enter Try.func12, Try.ntmps12
    go_wp2_with fail
    go_loopg [5] N (fun gh s5 wr => ∃ i : Nat, s5 = .int .i64 (i : Int) ∧ i ≤ N ∧ gh = N - i ∧ Hid (∀ j, j < i → L[j]? = M[j]?) ∧ Hid (Q w wr))
    case atStart => exact ⟨0, rfl, Nat.zero_le _, rfl, fun j hj => absurd hj (by omega), Q.refl w⟩
    case round =>
      obtain ⟨i, rfl, hi, rfl, HS, HQ⟩ := hrel
      by_cases hlt : i < N
      · have hltz : (i : Int) < (N : Int) := by omega
        obtain ⟨g1, o1, d1, hs1, hI1⟩ := HV.out.1.some (by have := HV.out.2; omega)
        rw [HV.out.2] at hs1
        injection hs1 with e1 e2 e3
        subst e1 e3
        obtain ⟨g2, o2, d2, hs2, hI2⟩ := HU.out.1.some (by have := HU.out.2; omega)
        rw [HU.out.2] at hs2
        injection hs2 with f1 f2 f3
        subst f1 f3
        obtain ⟨⟨x1, x2⟩, hx⟩ : ∃ e, L[i]? = some e := ⟨_, List.getElem?_eq_getElem (by have := HV.out.2; omega)⟩
        obtain ⟨⟨y1, y2⟩, hy⟩ : ∃ e, M[i]? = some e := ⟨_, List.getElem?_eq_getElem (by have := HU.out.2; omega)⟩
        obtain ⟨p1, p2⟩ := hI1 i _ hx
        obtain ⟨r1, r2⟩ := hI2 i _ hy
        have k1 := qw_cell (HQ.out.cell p1)
        have k2 := qw_cell (HQ.out.cell p2)
        have k3 := qw_cell (HQ.out.cell r1)
        have k4 := qw_cell (HQ.out.cell r2)
        simp only at k1 k2 k3 k4
        have n0 := qw_some wr
        have HX : Hid (L[i]? = some (x1, x2) ∧ M[i]? = some (y1, y2)) := ⟨hx, hy⟩
        clear hx hy hI1 hI2 e2 f2 p1 p2 r1 r2
        by_cases hxy : x1 = y1
        · subst hxy
          have b1 : (x1 == x1) = true := by simp
          by_cases hxz : x2 = y2
          · subst hxz
            have b2 : (x2 == x2) = true := by simp
            have HS2 : Hid (∀ j, j < i + 1 → L[j]? = M[j]?) := fun j hj => by
              by_cases e : j = i
              · subst e; rw [HX.out.1, HX.out.2]
              · exact HS.out j (by omega)
            go_wp2_with fail
            refine wp_region_quiet_Q (by kernel_rfl) (by kernel_rfl) ?_
            repeat (first | go_big_quiet_step (fail) | quiet_step (fail))
            refine wpQuiet_nil ?_
            intro w4 hw'
            have HQ4 : Hid (Q w w4) := HQ.out.trans (qw_out hw')
            clear hw' k1 k2 k3 k4 n0
            go_wp2_with fail
            go_roundg (N - (i + 1))
            case measure => go_light; omega
            case rel => go_light; exact ⟨i + 1, by simp, by omega, rfl, HS2, HQ4⟩
          · have b2 : (x2 == y2) = false := by simpa using hxz
            have HF : Hid (B = false) := by
              show B = false
              rw [← HB.out, decide_eq_false_iff_not]
              intro e
              rw [e] at HX
              have := HX.out.1.symm.trans HX.out.2
              injection this with this
              injection this with _ h2
              exact hxz h2
            clear HX
            go_wp2_with fail
            refine wp_region_quiet_Q (by kernel_rfl) (by kernel_rfl) ?_
            repeat (first | go_big_quiet_step (fail) | quiet_step (fail))
            refine wpQuiet_nil ?_
            intro w4 hw'
            have HQ4 : Hid (Q w w4) := HQ.out.trans (qw_out hw')
            clear hw' k1 k2 k3 k4 n0
            go_wp2_with fail
            go_ret
            exact ⟨by rw [HF.out]; rfl, HQ4.out⟩
        · have b1 : (x1 == y1) = false := by simpa using hxy
          have HF : Hid (B = false) := by
            show B = false
            rw [← HB.out, decide_eq_false_iff_not]
            intro e
            rw [e] at HX
            have := HX.out.1.symm.trans HX.out.2
            injection this with this
            injection this with h1 _
            exact hxy h1
          clear HX
          by_cases hxz : x2 = y2
          · have b2 : (x2 == y2) = true := by simpa using hxz
            go_wp2_with fail
            refine wp_region_quiet_Q (by kernel_rfl) (by kernel_rfl) ?_
            repeat (first | go_big_quiet_step (fail) | quiet_step (fail))
            refine wpQuiet_nil ?_
            intro w4 hw'
            have HQ4 : Hid (Q w w4) := HQ.out.trans (qw_out hw')
            clear hw' k1 k2 k3 k4 n0
            go_wp2_with fail
            go_ret
            exact ⟨by rw [HF.out]; rfl, HQ4.out⟩
          · have b2 : (x2 == y2) = false := by simpa using hxz
            go_wp2_with fail
            refine wp_region_quiet_Q (by kernel_rfl) (by kernel_rfl) ?_
            repeat (first | go_big_quiet_step (fail) | quiet_step (fail))
            refine wpQuiet_nil ?_
            intro w4 hw'
            have HQ4 : Hid (Q w w4) := HQ.out.trans (qw_out hw')
            clear hw' k1 k2 k3 k4 n0
            go_wp2_with fail
            go_ret
            exact ⟨by rw [HF.out]; rfl, HQ4.out⟩
      · have hge : ¬ (i : Int) < (N : Int) := by omega
        obtain rfl : i = N := by omega
        have HF : Hid (B = true) := by
          show B = true
          rw [← HB.out, decide_eq_true_iff]
          apply List.ext_getElem?
          intro j
          by_cases hj : j < i
          · exact HS.out j hj
          · rw [List.getElem?_eq_none (by have := HV.out.2; omega), List.getElem?_eq_none (by have := HU.out.2; omega)]
        go_wp2_with fail
        go_ret
        exact ⟨by rw [HF.out]; rfl, HQ.out⟩
  · rw [decide_eq_false (fun e => hl (by rw [e]))]
    have hl' : ((L.length : Int) == (M.length : Int)) = false := by simp; omega
    have hl'' : ¬ (L.length : Int) = (M.length : Int) := by omega
    clear hv hu hl
    generalize L.length = a at *
    generalize M.length = b at *
    go_enter Try.func12, Try.ntmps12
    go_wp2_with fail
    go_ret
    exact ⟨rfl, Q.refl w⟩
/-- A list of places told by hand. -/
theorem ordL_eq {r : Int → Int} {n : Nat} {l : List Int} (hp : l.Perm (placesL n)) (hs : l.Pairwise (tlt r)) : ordL r n = l := by
  have h1 : (ordL r n).Pairwise (tlt r) := by
    rw [List.pairwise_iff_getElem]
    intro i j hi hj hij
    exact ordL_lt (List.getElem?_eq_getElem hi) (List.getElem?_eq_getElem hj) hij
  exact ((ordL_perm r n).trans hp.symm).eq_of_pairwise (fun a b _ _ h h' => absurd (tlt_trans h h') tlt_irr) h1 hs
end Go.Proofs.Ytgajobomimcoaaa
/- The chapter's examples: known. -/
namespace Go.Proofs.Ytgajobomimcoaaa
open Go.RowKit
set_option linter.unusedVariables false
set_option linter.unusedSimpArgs false

theorem shr_none {z : Nat → Int} {n : Nat} {S : Int} (h1 : sumF z n = S) (h2 : missV z S n = 0) (i : Nat) : shrV z n i = flo z S i := by
  unfold shrV; rw [h1, h2]; exact shrK_zero _ _ _ _
theorem tk1 : wlsV 2 2 4 1 = [(0, 6), (1, 2)] := by decide
theorem tk2 : wlsV 3 2 4 1 = [(0, 816), (1, 208)] := by decide
theorem tk1' : tapsL (wlsV 2 2 4 1) = [(0, 49152), (1, 16384)] := by
  rw [tk1]
  have e := shr_none (z := zf [6, 2]) (n := 2) (S := 8) (by decide) (by decide)
  show tpK [(0, 6), (1, 2)] (shrV (zf [6, 2]) 2) 2 = _
  rw [show shrV (zf [6, 2]) 2 = flo (zf [6, 2]) 8 from funext e]
  decide
theorem tk2' : tapsL (wlsV 3 2 4 1) = [(0, 52224), (1, 13312)] := by
  rw [tk2]
  have e := shr_none (z := zf [816, 208]) (n := 2) (S := 1024) (by decide) (by decide)
  show tpK [(0, 816), (1, 208)] (shrV (zf [816, 208]) 2) 2 = _
  rw [show shrV (zf [816, 208]) 2 = flo (zf [816, 208]) 1024 from funext e]
  decide
theorem sk1 : tabI 3 (shrV (zf [1, 1, 1]) 3) = [21846, 21845, 21845] := by
  have o : ordL (rsV (zf [1, 1, 1]) 3) 3 = [0, 1, 2] := ordL_eq (by decide) (by unfold tlt; decide)
  have s : sumF (zf [1, 1, 1]) 3 = 3 := by decide
  have m : missV (zf [1, 1, 1]) 3 3 = 1 := by decide
  have e : shrV (zf [1, 1, 1]) 3 = fun i : Nat => flo (zf [1, 1, 1]) 3 i + if (i : Int) ∈ ([0] : List Int) then 1 else 0 := by
    funext i
    unfold shrV shrK
    rw [s, m, o]
    rfl
  rw [e]
  decide
theorem sz1 : Sz 2 4 1 := ⟨by decide, by decide, by decide, by decide, by decide, by decide⟩
theorem ok1 : shOk [1, 1, 1] := ⟨by decide, by decide, by decide, by decide⟩
set_option maxHeartbeats 4000000 in
set_option maxRecDepth 100000 in
theorem known9_any (w : World) : Calls Try.prog 9 #[] w fun e w' => e = .returned (.bool true) ∧ Q w w' := by
  have C1 := taps_good 2 2 4 1 w (by decide) sz1 (by rw [tk1]; decide)
  have HC2 : Hid (∀ W : World, Calls Try.prog 11 #[.int .i64 3, .int .i64 2, .int .i64 4, .int .i64 1] W fun e w' => ∃ v n, e = .returned (.tuple #[v, .int .i64 0]) ∧ Tl W w' v (tapsL (wlsV 3 2 4 1)) n) := fun W => taps_good 3 2 4 1 W (by decide) sz1 (by rw [tk2]; decide)
  have HC3 : Hid (∀ W : World, Calls Try.prog 15 #[.slice (some ⟨W.heap.size, 0, none⟩) 3 3] (W.alloc (.cells #[.int .i64 1, .int .i64 1, .int .i64 1] 3)) fun e w' => ∃ g, e = .returned (.tuple #[.slice (some ⟨g, 0, none⟩) 3 3, .int .i64 0]) ∧ W.heap.size + 1 ≤ g ∧ IRow w' g [21846, 21845, 21845] ∧ Q (W.alloc (.cells #[.int .i64 1, .int .i64 1, .int .i64 1] 3)) w') := fun W => by
    have h := share_good (.slice (some ⟨W.heap.size, 0, none⟩) 3 3) [1, 1, 1] (W.alloc (.cells #[.int .i64 1, .int .i64 1, .int .i64 1] 3)) (Or.inl ⟨W.heap.size, 0, 3, rfl, fun i hi => by
      have : i = 0 ∨ i = 1 ∨ i = 2 := by simp at hi; omega
      rcases this with rfl | rfl | rfl <;> simp [go_sem]⟩) ok1
    refine h.mono ?_
    rintro e w' ⟨g, h1, h2, h3, h4⟩
    rw [show ([1, 1, 1] : List Int).length = 3 from rfl, sk1] at h3
    exact ⟨g, h1, by simpa using h2, h3, h4⟩
  have HC4 : Hid (∀ W : World, Calls Try.prog 18 #[.int .i64 2] W fun e w' => ∃ v n, e = .returned (.tuple #[v, .int .i64 0]) ∧ Il W w' v [1, 4, 6, 4, 1] n) := fun W => bin_good 2 W (by decide)
  rw [tk1'] at C1
  rw [tk2'] at HC2
  go_enter Try.func9, Try.ntmps9
  go_wp2_with fail
  refine C1.mono ?_
  rintro e w1 ⟨v1, n1, rfl, h1⟩
  have H1 : Hid (Tl w w1 v1 [(0, 49152), (1, 16384)] n1) := h1
  clear C1 h1
  go_wp2_with fail
  refine (HC2.out w1).mono ?_
  rintro e w2 ⟨v2, n2, rfl, h2⟩
  have H2 : Hid (Tl w1 w2 v2 [(0, 52224), (1, 13312)] n2) := h2
  clear h2
  go_wp2_with fail
  refine (HC3.out w2).mono ?_
  rintro e w3 ⟨g3, rfl, _, h3, q3⟩
  have H3 : Hid (IRow w3 g3 [21846, 21845, 21845]) := h3
  have HQ3 : Hid (Q w2 w3) := ((Q.refl w2).cells _ _).trans q3
  clear h3 q3
  go_wp2_with fail
  refine (HC4.out w3).mono ?_
  rintro e w4 ⟨v4, n4, rfl, h4⟩
  have H4 : Hid (Il w3 w4 v4 [1, 4, 6, 4, 1] n4) := h4
  clear h4
  have T1 : Hid (TSl w4 v1 [(0, 49152), (1, 16384)]) := H1.out.tsl.next ((H2.out.q.trans HQ3.out).trans H4.out.q)
  have T2 : Hid (TSl w4 v2 [(0, 52224), (1, 13312)]) := H2.out.tsl.next (HQ3.out.trans H4.out.q)
  have T3 : Hid (ISl w4 (.slice (some ⟨g3, 0, none⟩) 3 3) [21846, 21845, 21845]) := (H3.out.isl 3).next H4.out.q
  have T4 : Hid (ISl w4 v4 [1, 4, 6, 4, 1]) := H4.out.isl
  have HQ4 : Hid (Q w w4) := ((H1.out.q.trans H2.out.q).trans HQ3.out).trans H4.out.q
  clear H1 H2 H3 H4 HQ3 HC2 HC3 HC4
  go_wp2_with fail
  refine (same_any v1 _ [(0, 49152), (1, 16384)] [(0, 49152), (1, 16384)] (w4.alloc (.cells #[.int .i64 0, .int .i64 49152, .int .i64 1, .int .i64 16384] 31)) (T1.out.next ((Q.refl w4).cells _ _)) (Or.inl ⟨w4.heap.size, 0, 2, rfl, fun i e hi => by
    have : i = 0 ∨ i = 1 := by have := (List.getElem?_eq_some_iff.1 hi).1; simp at this; omega
    rcases this with rfl | rfl <;> (cases hi; simp [go_sem])⟩) (by decide) (by decide)).mono ?_
  rintro e w5 ⟨rfl, q5⟩
  rw [decide_eq_true rfl]
  have HQ5 : Hid (Q w4 w5) := ((Q.refl w4).cells _ _).trans q5
  clear q5
  go_wp2_with fail
  refine (same_any v2 _ [(0, 52224), (1, 13312)] [(0, 52224), (1, 13312)] (w5.alloc (.cells #[.int .i64 0, .int .i64 52224, .int .i64 1, .int .i64 13312] 31)) (T2.out.next (HQ5.out.cells _ _)) (Or.inl ⟨w5.heap.size, 0, 2, rfl, fun i e hi => by
    have : i = 0 ∨ i = 1 := by have := (List.getElem?_eq_some_iff.1 hi).1; simp at this; omega
    rcases this with rfl | rfl <;> (cases hi; simp [go_sem])⟩) (by decide) (by decide)).mono ?_
  rintro e w6 ⟨rfl, q6⟩
  rw [decide_eq_true rfl]
  have HQ6 : Hid (Q w4 w6) := (HQ5.out.cells _ _).trans q6
  clear q6 HQ5
  go_wp2_with fail
  refine (ints_any _ _ [21846, 21845, 21845] [21846, 21845, 21845] (w6.alloc (.cells #[.int .i64 21846, .int .i64 21845, .int .i64 21845] 3)) (T3.out.next (HQ6.out.cells _ _)) (Or.inl ⟨w6.heap.size, 0, 3, rfl, fun i hi => by
    have : i = 0 ∨ i = 1 ∨ i = 2 := by simp at hi; omega
    rcases this with rfl | rfl | rfl <;> simp [go_sem]⟩) (by decide) (by decide)).mono ?_
  rintro e w7 ⟨rfl, q7⟩
  rw [decide_eq_true rfl]
  have HQ7 : Hid (Q w4 w7) := (HQ6.out.cells _ _).trans q7
  clear q7 HQ6
  go_wp2_with fail
  refine (ints_any v4 _ [1, 4, 6, 4, 1] [1, 4, 6, 4, 1] (w7.alloc (.cells #[.int .i64 1, .int .i64 4, .int .i64 6, .int .i64 4, .int .i64 1] 3)) (T4.out.next (HQ7.out.cells _ _)) (Or.inl ⟨w7.heap.size, 0, 5, rfl, fun i hi => by
    have : i = 0 ∨ i = 1 ∨ i = 2 ∨ i = 3 ∨ i = 4 := by simp at hi; omega
    rcases this with rfl | rfl | rfl | rfl | rfl <;> simp [go_sem]⟩) (by decide) (by decide)).mono ?_
  rintro e w8 ⟨rfl, q8⟩
  rw [decide_eq_true rfl]
  have HQ8 : Hid (Q w4 w8) := (HQ7.out.cells _ _).trans q8
  clear q8 HQ7
  go_wp2_with fail
  go_ret
  exact ⟨rfl, HQ4.out.trans HQ8.out⟩
end Go.Proofs.Ytgajobomimcoaaa
/- Shares sum to 65536, each is near its exact share, and equal weights share alike: plain. -/
namespace Go.Proofs.Ytgajobomimcoaaa
set_option linter.unusedVariables false
set_option linter.unusedSimpArgs false

theorem sumF_one {f g : Nat → Int} {o : Nat} (ho : g o = f o + 1) (hs : ∀ i, i ≠ o → g i = f i) : ∀ n, sumF g n = sumF f n + if o < n then 1 else 0
  | 0 => by simp [sumF]
  | n + 1 => by
    have ih := sumF_one ho hs n
    unfold sumF
    rw [ih]
    by_cases e : n = o
    · subst e; rw [ho, if_neg (by omega), if_pos (by omega)]; omega
    · rw [hs n e]
      by_cases c : o < n
      · rw [if_pos c, if_pos (by omega)]; omega
      · rw [if_neg c, if_neg (by omega)]; omega
theorem ordL_place {r : Int → Int} {n k : Nat} (h : k < n) : ∃ o : Nat, (ordL r n)[k]? = some (o : Int) ∧ o < n := by
  have hlen : k < (ordL r n).length := by rw [ordL_len]; exact h
  have hm := ordL_mem.1 (List.getElem_mem hlen)
  exact ⟨((ordL r n)[k]).toNat, by rw [List.getElem?_eq_getElem hlen]; congr 1; omega, by omega⟩
theorem shrK_sum (z : Nat → Int) (S : Int) (n : Nat) : ∀ k, k ≤ n → sumF (shrK z S n k) n = sumF (flo z S) n + (k : Int)
  | 0, _ => by rw [sumF_congr n (fun i _ => shrK_zero z S n i)]; simp
  | k + 1, h => by
    obtain ⟨o, ho, hon⟩ := ordL_place (r := rsV z S) (n := n) (k := k) (by omega)
    obtain ⟨h1, h2⟩ := shrK_hit ho
    rw [sumF_one h1 h2, if_pos hon, shrK_sum z S n k (by omega)]
    omega
theorem shr_sum {z : Nat → Int} {n : Nat} (hn : 0 < n) (hS : 0 < sumF z n) : sumF (shrV z n) n = 65536 := by
  have h0 := miss_ge z rfl hS
  have h1 := miss_le z rfl hS hn
  have := shrK_sum z (sumF z n) n (missV z (sumF z n) n).toNat (by omega)
  show sumF (shrK z (sumF z n) n (missV z (sumF z n) n).toNat) n = _
  rw [this]
  unfold missV at h0 ⊢
  omega
theorem perm_sum {l l' : List Int} (h : l.Perm l') : l.sum = l'.sum := by
  induction h with
  | nil => rfl
  | cons a _ ih => simp [ih]
  | swap a b l => simp; omega
  | trans _ _ h1 h2 => exact h1.trans h2
theorem sum_map_range (f : Nat → Int) : ∀ n, ((List.range n).map f).sum = sumF f n
  | 0 => rfl
  | n + 1 => by rw [List.range_succ, List.map_append, List.sum_append, sum_map_range f n]; simp [sumF]
/-- Who has one more has a rest. -/
theorem hit_pos {z : Nat → Int} {n : Nat} (hn : 0 < n) (hS : 0 < sumF z n) {x : Int} (hx : x ∈ (ordL (rsV z (sumF z n)) n).take (missV z (sumF z n) n).toNat) : 0 < rsV z (sumF z n) x := by
  obtain ⟨S, eS⟩ : ∃ S, sumF z n = S := ⟨_, rfl⟩
  have hm0 := miss_ge z rfl hS
  have hm1 := miss_eq z (n := n) rfl
  rw [eS] at hx hS hm0 hm1 ⊢
  have hr0 := rs_nonneg z hS x
  rcases Int.lt_or_le 0 (rsV z S x) with c | c
  · exact c
  exfalso
  obtain ⟨j, hj⟩ := List.getElem?_of_mem hx
  have hjm : j < (missV z S n).toNat := by have := (List.getElem?_eq_some_iff.1 hj).1; rw [List.length_take] at this; omega
  rw [List.getElem?_take_of_lt hjm] at hj
  -- all behind it have none
  have hsum : ((ordL (rsV z S) n).map (rsV z S)).sum = sumF (fun i => rsV z S i) n := by
    rw [perm_sum ((ordL_perm (rsV z S) n).map (rsV z S))]
    unfold placesL
    rw [List.map_map]
    exact sum_map_range _ n
  have hsplit : ((ordL (rsV z S) n).map (rsV z S)).sum = (((ordL (rsV z S) n).take j).map (rsV z S)).sum + (((ordL (rsV z S) n).drop j).map (rsV z S)).sum := by
    rw [← List.sum_append, ← List.map_append, List.take_append_drop]
  have hd : (((ordL (rsV z S) n).drop j).map (rsV z S)).sum = 0 := by
    have key : ∀ y ∈ (ordL (rsV z S) n).drop j, rsV z S y = 0 := fun y hy => by
      obtain ⟨k, hk⟩ := List.getElem?_of_mem hy
      rw [List.getElem?_drop] at hk
      have h0 := rs_nonneg z hS y
      by_cases e : k = 0
      · subst e
        rw [Nat.add_zero, hj] at hk
        cases hk; omega
      · have := ordL_lt hj hk (by omega)
        unfold tlt at this
        omega
    have : ((ordL (rsV z S) n).drop j).map (rsV z S) = ((ordL (rsV z S) n).drop j).map (fun _ => (0 : Int)) := List.map_congr_left key
    rw [this]
    generalize (ordL (rsV z S) n).drop j = l
    induction l with
    | nil => rfl
    | cons a t ih => simp [ih]
  have ht : (((ordL (rsV z S) n).take j).map (rsV z S)).sum ≤ (j : Int) * (S - 1) := by
    have key : ∀ l : List Int, (l.map (rsV z S)).sum ≤ (l.length : Int) * (S - 1) := fun l => by
      induction l with
      | nil => simp
      | cons a t ih =>
        have h1 := rs_lt z hS a
        have e : ((a :: t).length : Int) * (S - 1) = (t.length : Int) * (S - 1) + (S - 1) := by rw [List.length_cons, Int.natCast_add, Int.add_mul]; simp
        rw [List.map_cons, List.sum_cons, e]
        omega
    have h1 := key ((ordL (rsV z S) n).take j)
    have h2 : (((ordL (rsV z S) n).take j).length : Int) ≤ (j : Int) := by rw [List.length_take]; omega
    have h3 : (((ordL (rsV z S) n).take j).length : Int) * (S - 1) ≤ (j : Int) * (S - 1) := Int.mul_le_mul_of_nonneg_right h2 (by omega)
    omega
  rw [hd, hsum, ← hm1] at hsplit
  have h4 : ((j : Int) + 1) * S ≤ missV z S n * S := Int.mul_le_mul_of_nonneg_right (by omega) (by omega)
  rw [Int.add_mul, Int.mul_comm (missV z S n)] at h4
  have h5 : (j : Int) * (S - 1) = (j : Int) * S - (j : Int) := by rw [Int.mul_sub]; omega
  omega
theorem shr_near {z : Nat → Int} {n : Nat} (hn : 0 < n) (hS : 0 < sumF z n) (i : Nat) : -(sumF z n) < shrV z n i * sumF z n - 65536 * z i ∧ shrV z n i * sumF z n - 65536 * z i < sumF z n := by
  have h1 := flo_rs z (sumF z n) i
  have h2 := rs_nonneg z hS i
  have h3 := rs_lt z hS i
  unfold shrV shrK
  by_cases c : (i : Int) ∈ (ordL (rsV z (sumF z n)) n).take (missV z (sumF z n) n).toNat
  · have h4 := hit_pos hn hS c
    rw [if_pos c, Int.add_mul, Int.mul_comm (flo z (sumF z n) i)]
    omega
  · rw [if_neg c, Int.add_zero, Int.mul_comm (flo z (sumF z n) i)]
    omega
theorem shr_alike {z : Nat → Int} {n k i : Nat} (hki : k < i) (hin : i < n) (he : z k = z i) : shrV z n k = shrV z n i ∨ shrV z n k = shrV z n i + 1 := by
  unfold shrV shrK
  generalize sumF z n = S
  generalize (missV z S n).toNat = m
  have hf : flo z S k = flo z S i := by unfold flo; rw [he]
  rw [hf]
  have hr : rsV z S k = rsV z S i := by unfold rsV; rw [Int.toNat_natCast, Int.toNat_natCast, he]
  by_cases ci : (i : Int) ∈ (ordL (rsV z S) n).take m
  · have ck : (k : Int) ∈ (ordL (rsV z S) n).take m := by
      obtain ⟨b, hb⟩ := List.getElem?_of_mem ci
      have hbm : b < m := by have := (List.getElem?_eq_some_iff.1 hb).1; rw [List.length_take] at this; omega
      rw [List.getElem?_take_of_lt hbm] at hb
      obtain ⟨a, ha⟩ := List.getElem?_of_mem (ordL_mem.2 ⟨(by omega : (0 : Int) ≤ (k : Int)), (by omega : (k : Int) < (n : Int))⟩ : (k : Int) ∈ ordL (rsV z S) n)
      have hab : a < b := by
        rcases Nat.lt_trichotomy a b with h | h | h
        · exact h
        · subst h; rw [ha] at hb; cases hb; omega
        · have := ordL_lt hb ha h
          unfold tlt at this
          omega
      refine List.mem_of_getElem? (i := a) ?_
      rw [List.getElem?_take_of_lt (by omega)]; exact ha
    rw [if_pos ci, if_pos ck]; exact Or.inl rfl
  · rw [if_neg ci]
    by_cases ck : (k : Int) ∈ (ordL (rsV z S) n).take m
    · rw [if_pos ck]; right; omega
    · rw [if_neg ck]; exact Or.inl rfl
end Go.Proofs.Ytgajobomimcoaaa
