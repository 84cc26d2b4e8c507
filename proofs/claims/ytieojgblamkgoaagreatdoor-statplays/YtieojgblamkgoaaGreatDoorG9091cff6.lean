/- stat: Ends, Mean. -/
import Derived.Test.YtieojgblamkgoaaGreatDoorG9aa7668d
import Derived.Test.YtieojgblamkgoaaGreatDoorG00d82094
import Derived.Test.YtieojgblamkgoaaGreatDoorG6b52728e
import Derived.Test.YtieojgblamkgoaaGreatDoorG067d5bf2
namespace Go.Proofs.YtieojgblamkgoaaGreatDoor
open Go.RowKit
set_option linter.unusedVariables false
set_option linter.unusedSimpArgs false

/-- What Ends tells; what Mean tells. -/
def endsV (L : List Nat) : Nat × Nat × Int := if numL L = [] then (0, 0, 161) else (fkeyN (lowK L), fkeyN (topK L), 0)
def smeanV (L : List Nat) : Nat × Int := if L = [] then (0, 161) else (sumV L L.length, 0)
set_option maxRecDepth 100000 in
theorem eq2_any (a b : Int) (w : World) : (Op.equalIn 10000 74 (.agg #[.int .u32 a, .int .u32 b]) (.agg #[.int .u32 4294967295, .int .u32 0])).run Tryz.prog w = .ok (a == 4294967295 && b == 0) w := by
  rw [show (10000 : Nat) = 9999 + 1 from rfl, Op.equalIn]
  simp [go_sem, List.range', List.forIn_cons]
  by_cases h0 : a = 4294967295
  · by_cases h1 : b = 0 <;> simp [h0, h1]
  · simp [h0]
set_option maxHeartbeats 4000000 in
set_option maxRecDepth 100000 in
theorem sends_any (P A H b kc : Nat) (L : List Nat) (w : World) (h : StAt w P A H b kc L) (hL : ∀ s ∈ L, s < 4294967296) :
    Calls Tryz.prog 31 #[.pointer (some ⟨P, 0, none⟩)] w fun e w' => e = .returned (.tuple #[.int .u32 ((endsV L).1 : Nat), .int .u32 ((endsV L).2.1 : Nat), .int .i64 (endsV L).2.2]) ∧ Q w w' := by
  have hi := ends_iff hL
  have hl := lowK_le L
  have ht := topK_le hL
  have p3 := h.p3
  have p4 := h.p4
  have F1 := fromkey_any (lowK L) (by omega)
  have F2 := fromkey_any (topK L) (by omega)
  have HF : Hid (∀ n w, n = lowK L ∨ n = topK L → Calls Tryz.prog 64 #[.int .u32 (n : Int)] w fun e w' => e = .returned (.int .u32 (fkeyN n : Nat)) ∧ w' = w) := fun n w hn => by
    rcases hn with rfl | rfl
    · exact F1 w
    · exact F2 w
  have HN : Hid (∀ w : World, Calls Tryz.prog 41 #[] w fun e w' => e = .returned (.agg #[.int .u32 4294967295, .int .u32 0]) ∧ Q w w') := fun w => nospan_any w
  unfold endsV
  clear h F1 F2 hL
  generalize lowK L = x at *
  generalize topK L = y at *
  by_cases hz : numL L = []
  · obtain ⟨rfl, rfl⟩ := hi.2 hz
    rw [if_pos hz]
    have hq : ∀ x, (Op.equalIn 10000 74 (.agg #[.int .u32 ((4294967295 : Nat) : Int), .int .u32 ((0 : Nat) : Int)]) (.agg #[.int .u32 4294967295, .int .u32 0])).run Tryz.prog x = .ok true x := fun x => by rw [eq2_any]; rfl
    have q3 := qw_cell p3
    have q4 := qw_cell p4
    have n0 := qw_some w
    clear hi hz hl ht HF
    go_enter Tryz.func31, Tryz.ntmps31
    go_wp2_with fail
    refine wp_region_quiet_Q (by kernel_rfl) (by kernel_rfl) ?_
    repeat (first | go_big_quiet_step (first | (go_at_call 41; exact calls_qw (HN.out _))) | quiet_step (first | (go_at_call 41; exact calls_qw (HN.out _))))
    refine wpQuiet_nil ?_
    intro w4 hw'
    have hq4 := qw_out hw'
    go_wp2_with fail
    refine bodyPost_ret (v := .tuple #[.int .u32 0, .int .u32 0, .int .i64 161]) (by simp [results, Tryz.results31, go_sem]) rfl ⟨rfl, hq4⟩
  · rw [if_neg hz]
    have hne : ((x : Int) == 4294967295 && (y : Int) == 0) = false := by
      rw [Bool.eq_false_iff]
      intro e
      simp only [Bool.and_eq_true, beq_iff_eq] at e
      exact hz (hi.1 (by omega))
    have hq : ∀ w, (Op.equalIn 10000 74 (.agg #[.int .u32 (x : Int), .int .u32 (y : Int)]) (.agg #[.int .u32 4294967295, .int .u32 0])).run Tryz.prog w = .ok false w := fun w => by rw [eq2_any, hne]
    have HP : Hid (w.cell? ⟨P, 3, none⟩ = some (.int .u32 (x : Int)) ∧ w.cell? ⟨P, 4, none⟩ = some (.int .u32 (y : Int))) := ⟨p3, p4⟩
    have q3 := qw_cell p3
    have q4 := qw_cell p4
    have n0 := qw_some w
    clear hi hz hl ht hne p3 p4
    go_enter Tryz.func31, Tryz.ntmps31
    go_wp2_with fail
    refine wp_region_quiet_Q (by kernel_rfl) (by kernel_rfl) ?_
    repeat (first | go_big_quiet_step (first | (go_at_call 41; exact calls_qw (HN.out _))) | quiet_step (first | (go_at_call 41; exact calls_qw (HN.out _))))
    refine wpQuiet_nil ?_
    intro w4 hw'
    have hq4 := qw_out hw'
    have p3 := hq4.cell HP.out.1
    have p4 := hq4.cell HP.out.2
    clear q3 q4 n0 HP hw'
    have q3 := qw_cell p3
    have q4 := qw_cell p4
    have n0 := qw_some w4
    go_wp2_with fail
    refine wp_region_quiet_Q (by kernel_rfl) (by kernel_rfl) ?_
    repeat (first | go_big_quiet_step (first | (go_at_call 64; exact calls_qs (HF.out _ _ (by first | exact Or.inl rfl | exact Or.inr rfl)))) | quiet_step (first | (go_at_call 64; exact calls_qs (HF.out _ _ (by first | exact Or.inl rfl | exact Or.inr rfl)))))
    refine wpQuiet_nil ?_
    intro w5 hw'
    have hq5 := qw_out hw'
    go_wp2_with fail
    refine bodyPost_ret (v := .tuple #[.int .u32 (fkeyN x : Nat), .int .u32 (fkeyN y : Nat), .int .i64 0]) (by simp [results, Tryz.results31, go_sem]) rfl ⟨rfl, hq4.trans hq5⟩
set_option maxHeartbeats 4000000 in
set_option maxRecDepth 100000 in
theorem smean_any (P A H b kc : Nat) (L : List Nat) (w : World) (h : StAt w P A H b kc L) (hL : ∀ s ∈ L, s < 4294967296) (hn : L.length ≤ 1000000) (hT : Tab w) :
    Calls Tryz.prog 34 #[.pointer (some ⟨P, 0, none⟩)] w fun e w' => e = .returned (.tuple #[.int .u32 ((smeanV L).1 : Nat), .int .i64 (smeanV L).2]) ∧ Q w w' := by
  obtain ⟨N, hA⟩ := h.acc
  have p0 := h.p0
  have K := amean_any L A L.length N w hA (sumZ_fits hL (by omega)) hT
  unfold overV at K
  unfold smeanV
  clear h hA hT hL
  by_cases hz : L = []
  · subst hz
    rw [if_pos (Or.inl (by decide))] at K
    rw [if_pos rfl]
    go_enter Tryz.func34, Tryz.ntmps34
    go_wp2_with fail
    refine K.mono ?_
    rintro e w1 ⟨rfl, q1⟩
    go_wp2_with fail
    go_ret2
    exact ⟨rfl, q1⟩
  · have h1 : 0 < L.length := List.length_pos_iff.2 hz
    rw [if_neg (by omega), Int.toNat_natCast] at K
    rw [if_neg hz]
    clear hz
    generalize sumV L L.length = m at *
    go_enter Tryz.func34, Tryz.ntmps34
    go_wp2_with fail
    refine K.mono ?_
    rintro e w1 ⟨rfl, q1⟩
    go_wp2_with fail
    go_ret2
    exact ⟨rfl, q1⟩
end Go.Proofs.YtieojgblamkgoaaGreatDoor
/- Lists of whole numbers held against one another. -/
namespace Go.Proofs.YtieojgblamkgoaaGreatDoor
open Go.RowKit
set_option linter.unusedVariables false
set_option linter.unusedSimpArgs false

set_option maxHeartbeats 2000000 in
set_option maxRecDepth 100000 in
/-- halidehelp.Ints: the same lists? -/
theorem ints_any (v u : Value) (L M : List Int) (w : World) (hv : ISl w v L) (hu : ISl w u M) (hn : L.length ≤ 100000) (hm : M.length ≤ 100000) :
    Calls Tryz.prog 49 #[v, u] w fun e w' => e = .returned (.bool (decide (L = M))) ∧ Q w w' := by
  obtain ⟨ad, c, rfl⟩ := hv.form
  obtain ⟨ad2, c2, rfl⟩ := hu.form
  by_cases hl : L.length = M.length
  · obtain ⟨B, hB⟩ : ∃ B, decide (L = M) = B := ⟨_, rfl⟩
    have HB : Hid (decide (L = M) = B) := hB
    rw [hB]
    obtain ⟨N, eN⟩ : ∃ N, L.length = N := ⟨_, rfl⟩
    have HV : Hid (ISl w (.slice ad N c) L ∧ L.length = N) := ⟨by rw [← eN]; exact hv, eN⟩
    have HU : Hid (ISl w (.slice ad2 N c2) M ∧ M.length = N) := ⟨by rw [← eN, hl]; exact hu, by rw [← eN, hl]⟩
    rw [← hl, eN]
    rw [eN] at hn
    clear hv hu hl eN hB hm
    go_enter Tryz.func49, Tryz.ntmps49
    go_wp2_with fail
    go_loopg [5] N (fun gh s5 wr => ∃ i : Nat, s5 = .int .i64 (i : Int) ∧ i ≤ N ∧ gh = N - i ∧ Hid (∀ j, j < i → L.getD j 0 = M.getD j 0) ∧ Hid (Q w wr))
    case atStart => exact ⟨0, rfl, Nat.zero_le _, rfl, fun j hj => absurd hj (by omega), Q.refl w⟩
    case round =>
      obtain ⟨i, rfl, hi, rfl, HS, HQ⟩ := hrel
      by_cases hlt : i < N
      · have hltz : (i : Int) < (N : Int) := by omega
        obtain ⟨g1, o1, d1, hs1, hI1⟩ := HV.out.1.some (by have := HV.out.2; omega)
        rw [HV.out.2] at hs1 hI1
        injection hs1 with e1 e2 e3
        subst e1 e3
        obtain ⟨g2, o2, d2, hs2, hI2⟩ := HU.out.1.some (by have := HU.out.2; omega)
        rw [HU.out.2] at hs2 hI2
        injection hs2 with f1 f2 f3
        subst f1 f3
        have k1 := qw_cell (HQ.out.cell (hI1 i hlt))
        have k2 := qw_cell (HQ.out.cell (hI2 i hlt))
        have n0 := qw_some wr
        obtain ⟨x, hx⟩ : ∃ x, L.getD i 0 = x := ⟨_, rfl⟩
        obtain ⟨y, hy⟩ : ∃ y, M.getD i 0 = y := ⟨_, rfl⟩
        rw [hx] at k1
        rw [hy] at k2
        have HX : Hid (L.getD i 0 = x ∧ M.getD i 0 = y) := ⟨hx, hy⟩
        clear hx hy hI1 hI2 e2 f2
        go_wp2_with fail
        refine wp_region_quiet_Q (by kernel_rfl) (by kernel_rfl) ?_
        repeat (first | go_big_quiet_step (fail) | quiet_step (fail))
        refine wpQuiet_nil ?_
        intro w4 hw'
        have HQ4 : Hid (Q w w4) := HQ.out.trans (qw_out hw')
        clear hw' k1 k2 n0
        by_cases hxy : x = y
        · subst hxy
          have HS2 : Hid (∀ j, j < i + 1 → L.getD j 0 = M.getD j 0) := fun j hj => by
            by_cases e : j = i
            · subst e; rw [HX.out.1, HX.out.2]
            · exact HS.out j (by omega)
          go_wp2_with fail
          go_roundg (N - (i + 1))
          case measure => go_light; omega
          case rel => go_light; exact ⟨i + 1, by simp, by omega, rfl, HS2, HQ4⟩
        · have hxy' : (x == y) = false := by simpa using hxy
          have HF : Hid (B = false) := by
            show B = false
            rw [← HB.out, decide_eq_false_iff_not]
            intro e
            rw [e] at HX
            exact hxy (HX.out.1.symm.trans HX.out.2)
          clear HX
          go_wp2_with fail
          go_ret
          exact ⟨by rw [HF.out]; rfl, HQ4.out⟩
      · have hge : ¬ (i : Int) < (N : Int) := by omega
        obtain rfl : i = N := by omega
        have HF : Hid (B = true) := by
          show B = true
          rw [← HB.out, decide_eq_true_iff]
          apply List.ext_getElem?
          intro j
          by_cases hj : j < i
          · have := HS.out j hj
            rw [List.getD_eq_getElem?_getD, List.getD_eq_getElem?_getD, List.getElem?_eq_getElem (by have := HV.out.2; omega), List.getElem?_eq_getElem (by have := HU.out.2; omega)] at this
            rw [List.getElem?_eq_getElem (by have := HV.out.2; omega), List.getElem?_eq_getElem (by have := HU.out.2; omega)]
            exact congrArg some this
          · rw [List.getElem?_eq_none (by have := HV.out.2; omega), List.getElem?_eq_none (by have := HU.out.2; omega)]
        go_wp2_with fail
        go_ret
        exact ⟨by rw [HF.out]; rfl, HQ.out⟩
  · rw [decide_eq_false (fun e => hl (by rw [e]))]
    have hl' : ((L.length : Int) == (M.length : Int)) = false := by simp; omega
    have hl'' : ¬ (L.length : Int) = (M.length : Int) := by omega
    clear hv hu hl
    generalize L.length = a at *
    generalize M.length = b at *
    go_enter Tryz.func49, Tryz.ntmps49
    go_wp2_with fail
    go_ret
    exact ⟨rfl, Q.refl w⟩
end Go.Proofs.YtieojgblamkgoaaGreatDoor
/- Plain facts: what is told of a list of samples does not hang on their order; a sample and its negative leave it. -/
namespace Go.Proofs.YtieojgblamkgoaaGreatDoor
open Go.RowKit
set_option linter.unusedVariables false
set_option linter.unusedSimpArgs false

end Go.Proofs.YtieojgblamkgoaaGreatDoor
/- The document's Size, Check and Border. -/
namespace Go.Proofs.YtieojgblamkgoaaGreatDoor
open Go.RowKit
end Go.Proofs.YtieojgblamkgoaaGreatDoor
