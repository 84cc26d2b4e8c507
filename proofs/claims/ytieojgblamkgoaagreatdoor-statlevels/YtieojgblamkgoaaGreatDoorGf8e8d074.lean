/- The document's Rank and Share (layer 16). -/
import Derived.Test.YtieojgblamkgoaaGreatDoorGf196db84
import Derived.Test.YtieojgblamkgoaaGreatDoorG9f79f305
import Derived.Test.YtieojgblamkgoaaGreatDoorGf88f0262
import Derived.Test.YtieojgblamkgoaaGreatDoorG5ac80c9f
import Derived.Test.YtieojgblamkgoaaGreatDoorG4085d0f8
namespace Go.Proofs.YtieojgblamkgoaaGreatDoor
open Go.RowKit
set_option linter.unusedVariables false
set_option linter.unusedSimpArgs false

theorem and_31s (s : Int) (h0 : 0 ≤ s) (h1 : s ≤ 4294967295) : bits .and .u32 s 2147483647 = s % 2147483648 := by go_bits2
set_option maxHeartbeats 400000 in
theorem r4key_any (s : Nat) (hs : s < 4294967296) (w : World) : Calls Tryz.prog 59 #[.int .u32 s] w fun e w' => e = .returned (.int .i64 (keyN s : Nat)) ∧ w' = w := by
  by_cases h : s < 2147483648
  · have h' : (s : Int) < 2147483648 := by omega
    go_enter Tryz.func59, Tryz.ntmps59
    go_wp2
    go_ret
    exact ⟨ret_int (by unfold keyN; rw [if_pos h]; omega), rfl⟩
  · have h' : ¬ (s : Int) < 2147483648 := by omega
    go_enter Tryz.func59, Tryz.ntmps59
    go_wp2
    go_ret
    exact ⟨ret_int (by unfold keyN; rw [if_neg h]; omega), rfl⟩
set_option maxHeartbeats 400000 in
theorem r4nan_any (a : Nat) (ha : a < 4294967296) (w : World) : Calls Tryz.prog 61 #[.int .u32 a] w fun e w' => e = .returned (.bool (nanN a)) ∧ w' = w := by
  have e1 := and_31s a (by omega) (by omega)
  go_enter Tryz.func61, Tryz.ntmps61
  go_wp2
  go_ret
  refine ⟨ret_bool ?_, rfl⟩
  unfold nanN
  rw [decide_eq_decide]
  omega
set_option maxHeartbeats 8000000 in
set_option maxRecDepth 100000 in
theorem s16rank_any (v : Value) (S : List Nat) (k : Int) (w : World) (hv : USl w v S) (hb : ∀ i, S.getD i 0 < 4294967296) (hn : S.length ≤ 1000000) :
    Calls Tryz.prog 21 #[v, .int .i64 k] w fun e w' => e = .returned (.tuple #[.int .u32 ((srkV 0 S k).1 : Nat), .int .i64 (srkV 0 S k).2]) ∧ Q w w' := by
  obtain ⟨ad, cap, rfl⟩ := hv.form
  unfold srkV
  rw [if_neg (fun h => h rfl)]
  by_cases h0 : k < 0
  · rw [if_pos (Or.inl h0)]
    go_enter Tryz.func21, Tryz.ntmps21
    go_wp2_with fail
    go_ret2
    exact ⟨rfl, Q.refl _⟩
  · by_cases h1 : (S.length : Int) ≤ k
    · rw [if_pos (Or.inr h1)]
      go_enter Tryz.func21, Tryz.ntmps21
      go_wp2_with fail
      go_ret2
      exact ⟨rfl, Q.refl _⟩
    · obtain ⟨K, rfl⟩ : ∃ K : Nat, k = (K : Int) := ⟨k.toNat, by omega⟩
      rw [if_neg (by omega), Int.toNat_natCast]
      have hK : K < S.length := by omega
      obtain ⟨g, o, cap', hsl, hcap, hI⟩ := hv.some (by omega)
      injection hsl with hs1 hs2 hs3
      subst hs1 hs3
      clear hs2 hv
      have HI : Hid (UIs w g o S) := hI
      have HB : Hid (∀ i, S.getD i 0 < 4294967296) := hb
      have HM : Hid (∀ s ∈ S, s < 4294967296) := mem_of_getD2 hb
      have HE : Hid (S.take S.length = S) := List.take_of_length_le (Nat.le_refl _)
      have HK : Hid (∀ s : Nat, s < 4294967296 → ∀ x, Calls Tryz.prog 59 #[.int .u32 (s : Int)] x fun e w' => e = .returned (.int .i64 (keyN s : Nat)) ∧ w' = x) := fun s hs x => r4key_any s hs x
      clear hI hb h0
      go_enter Tryz.func21, Tryz.ntmps21
      go_wp2_with fail
      go_loopg [6, 7, 8, 9] (S.length) (fun gh s6 s7 s8 s9 wr => ∃ i : Nat, s6 = .int .i64 (i : Int) ∧ i ≤ S.length ∧ gh = S.length - i ∧ Hid ((∀ i', i' < i → ¬ isRk S K i') ∧ Q w wr))
      case atStart => exact ⟨0, rfl, by omega, rfl, fun i' h => absurd h (Nat.not_lt_zero _), Q.refl _⟩
      case round =>
        obtain ⟨i, rfl, hi, rfl, HR⟩ := hrel
        by_cases hlt : i < S.length
        · have hlt' : (i : Int) < (S.length : Int) := by omega
          go_wp2_with fail
          obtain ⟨y, hy⟩ : ∃ y, S.getD i 0 = y := ⟨_, rfl⟩
          have HY : Hid (S.getD i 0 = y) := hy
          have hy2 : y < 4294967296 := by rw [← hy]; exact HB.out i
          clear hy
          go_loopg [7, 8, 9] (S.length) (fun gh s7 s8 s9 wx => ∃ j : Nat, s7 = .int .i64 (lssN (S.take j) y : Nat) ∧ s8 = .int .i64 (samN (S.take j) y : Nat) ∧ s9 = .int .i64 (j : Int) ∧ j ≤ S.length ∧ gh = S.length - j ∧ Hid (Q w wx))
          case atStart => exact ⟨0, rfl, rfl, rfl, by omega, rfl, HR.out.2⟩
          case round =>
            obtain ⟨j, rfl, rfl, rfl, hj, rfl, HX⟩ := hrel
            by_cases hjl : j < S.length
            · have hjl' : (j : Int) < (S.length : Int) := by omega
              have cj := HX.out.cell (HI.out j hjl)
              have ci := HX.out.cell (HI.out i hlt)
              rw [HY.out] at ci
              have e1 := lss_snoc (x := y) hjl
              have e2 := sam_snoc (x := y) hjl
              have hl1 : lssN (S.take j) y ≤ S.length := Nat.le_trans List.countP_le_length (by rw [List.length_take]; omega)
              have hl2 : samN (S.take j) y ≤ S.length := Nat.le_trans List.countP_le_length (by rw [List.length_take]; omega)
              obtain ⟨x, hx⟩ : ∃ x, S.getD j 0 = x := ⟨_, rfl⟩
              have hx2 : x < 4294967296 := by rw [← hx]; exact HB.out j
              rw [hx] at cj e1 e2
              obtain ⟨p, hp⟩ : ∃ p, lssN (S.take j) y = p := ⟨_, rfl⟩
              obtain ⟨q, hq⟩ : ∃ q, samN (S.take j) y = q := ⟨_, rfl⟩
              rw [hp] at e1 hl1 ⊢
              rw [hq] at e2 hl2 ⊢
              have CK : Hid (∀ (z : Nat) (w : World), (z = x ∨ z = y) → Calls Tryz.prog 59 #[.int .u32 (z : Int)] w fun e w' => e = .returned (.int .i64 (keyN z : Nat)) ∧ w' = w) := fun z w hz => HK.out z (by rcases hz with rfl | rfl <;> assumption) w
              have q1 := qw_cell cj
              have q2 := qw_cell ci
              have n0 := qw_some wr
              clear hx hp hq
              by_cases h1 : keyN x < keyN y
              · have hxy : ((x : Int) == (y : Int)) = false := by rw [beq_eq_false_iff_ne]; intro e; exact absurd h1 (by rw [show x = y by omega]; omega)
                have h1' : ((keyN x : Nat) : Int) < ((keyN y : Nat) : Int) := by omega
                have HL1 : Hid (lssN (S.take (j + 1)) y = p + 1) := by show _ = _; rw [e1, if_pos h1]
                have HL2 : Hid (samN (S.take (j + 1)) y = q) := by show _ = _; rw [e2, if_neg (fun e => by subst e; omega), Nat.add_zero]
                clear e1 e2
                go_wp2_with fail
                refine wp_region_quiet_Q (by kernel_rfl) (by kernel_rfl) ?_
                repeat (first | go_big_quiet_step (first | (go_at_call 59; exact calls_qs (CK.out _ _ (by first | exact Or.inl rfl | exact Or.inr rfl)))) | quiet_step (first | (go_at_call 59; exact calls_qs (CK.out _ _ (by first | exact Or.inl rfl | exact Or.inr rfl)))))
                refine wpQuiet_nil ?_
                intro w4 hw'
                have hq4 := qw_out hw'
                have HQ4 : Hid (Q w w4) := HX.out.trans hq4
                have c1 := hq4.cell cj
                have c2 := hq4.cell ci
                clear q1 q2 n0 hw' hq4 cj ci
                have q1 := qw_cell c1
                have q2 := qw_cell c2
                have n0 := qw_some w4
                go_wp2_with fail
                refine wp_region_quiet_Q (by kernel_rfl) (by kernel_rfl) ?_
                repeat (first | go_big_quiet_step (fail) | quiet_step (fail))
                refine wpQuiet_nil ?_
                intro w5 hw'
                have HQ5 : Hid (Q w w5) := HQ4.out.trans (qw_out hw')
                clear q1 q2 n0 hw' c1 c2 HQ4
                go_wp2_with fail
                go_roundg (S.length - (j + 1))
                case measure => go_light; omega
                case rel => go_light; exact ⟨j + 1, by rw [HL1.out] <;> simp, by rw [HL2.out] <;> simp, by simp, by omega, rfl, HQ5⟩
              · have h1' : ¬ ((keyN x : Nat) : Int) < ((keyN y : Nat) : Int) := by omega
                by_cases h2 : x = y
                · have hxy : ((x : Int) == (y : Int)) = true := by rw [h2]; simp
                  have HL1 : Hid (lssN (S.take (j + 1)) y = p) := by show _ = _; rw [e1, if_neg h1, Nat.add_zero]
                  have HL2 : Hid (samN (S.take (j + 1)) y = q + 1) := by show _ = _; rw [e2, if_pos h2]
                  clear e1 e2 h2
                  go_wp2_with fail
                  refine wp_region_quiet_Q (by kernel_rfl) (by kernel_rfl) ?_
                  repeat (first | go_big_quiet_step (first | (go_at_call 59; exact calls_qs (CK.out _ _ (by first | exact Or.inl rfl | exact Or.inr rfl)))) | quiet_step (first | (go_at_call 59; exact calls_qs (CK.out _ _ (by first | exact Or.inl rfl | exact Or.inr rfl)))))
                  refine wpQuiet_nil ?_
                  intro w4 hw'
                  have hq4 := qw_out hw'
                  have HQ4 : Hid (Q w w4) := HX.out.trans hq4
                  have c1 := hq4.cell cj
                  have c2 := hq4.cell ci
                  clear q1 q2 n0 hw' hq4 cj ci
                  have q1 := qw_cell c1
                  have q2 := qw_cell c2
                  have n0 := qw_some w4
                  go_wp2_with fail
                  refine wp_region_quiet_Q (by kernel_rfl) (by kernel_rfl) ?_
                  repeat (first | go_big_quiet_step (fail) | quiet_step (fail))
                  refine wpQuiet_nil ?_
                  intro w5 hw'
                  have HQ5 : Hid (Q w w5) := HQ4.out.trans (qw_out hw')
                  clear q1 q2 n0 hw' c1 c2 HQ4
                  go_wp2_with fail
                  go_roundg (S.length - (j + 1))
                  case measure => go_light; omega
                  case rel => go_light; exact ⟨j + 1, by rw [HL1.out] <;> simp, by rw [HL2.out] <;> simp, by simp, by omega, rfl, HQ5⟩
                · have hxy : ((x : Int) == (y : Int)) = false := by rw [beq_eq_false_iff_ne]; omega
                  have HL1 : Hid (lssN (S.take (j + 1)) y = p) := by show _ = _; rw [e1, if_neg h1, Nat.add_zero]
                  have HL2 : Hid (samN (S.take (j + 1)) y = q) := by show _ = _; rw [e2, if_neg h2, Nat.add_zero]
                  clear e1 e2
                  go_wp2_with fail
                  refine wp_region_quiet_Q (by kernel_rfl) (by kernel_rfl) ?_
                  repeat (first | go_big_quiet_step (first | (go_at_call 59; exact calls_qs (CK.out _ _ (by first | exact Or.inl rfl | exact Or.inr rfl)))) | quiet_step (first | (go_at_call 59; exact calls_qs (CK.out _ _ (by first | exact Or.inl rfl | exact Or.inr rfl)))))
                  refine wpQuiet_nil ?_
                  intro w4 hw'
                  have hq4 := qw_out hw'
                  have HQ4 : Hid (Q w w4) := HX.out.trans hq4
                  have c1 := hq4.cell cj
                  have c2 := hq4.cell ci
                  clear q1 q2 n0 hw' hq4 cj ci
                  have q1 := qw_cell c1
                  have q2 := qw_cell c2
                  have n0 := qw_some w4
                  go_wp2_with fail
                  refine wp_region_quiet_Q (by kernel_rfl) (by kernel_rfl) ?_
                  repeat (first | go_big_quiet_step (fail) | quiet_step (fail))
                  refine wpQuiet_nil ?_
                  intro w5 hw'
                  have HQ5 : Hid (Q w w5) := HQ4.out.trans (qw_out hw')
                  clear q1 q2 n0 hw' c1 c2 HQ4
                  go_wp2_with fail
                  go_roundg (S.length - (j + 1))
                  case measure => go_light; omega
                  case rel => go_light; exact ⟨j + 1, by rw [HL1.out] <;> simp, by rw [HL2.out] <;> simp, by simp, by omega, rfl, HQ5⟩
            · obtain rfl : j = S.length := by omega
              have hge : ¬ (S.length : Int) < (S.length : Int) := by omega
              rw [HE.out]
              have hl1 : lssN S y ≤ S.length := List.countP_le_length
              have hl2 : samN S y ≤ S.length := List.countP_le_length
              have HD : Hid (isRk S K i ↔ lssN S y ≤ K ∧ K < lssN S y + samN S y) := by
                show isRk S K i ↔ _
                unfold isRk
                rw [HY.out]
              generalize lssN S y = p at *
              generalize samN S y = q at *
              by_cases h1 : p ≤ K
              · have h1' : (p : Int) ≤ (K : Int) := by omega
                by_cases h2 : K < p + q
                · have h2' : (K : Int) < (p : Int) + (q : Int) := by omega
                  have HV : Hid (rkV S K = y) := by
                    show _ = _
                    rw [← HY.out]
                    exact (isRk_val HM.out hlt hK (HD.out.2 ⟨h1, h2⟩)).symm
                  have ci := HX.out.cell (HI.out i hlt)
                  rw [HY.out] at ci
                  clear HD
                  go_wp2_with fail
                  go_ret2
                  rw [HV.out]
                  exact ⟨rfl, HX.out⟩
                · have h2' : ¬ (K : Int) < (p : Int) + (q : Int) := by omega
                  have HN : Hid ((∀ i', i' < i + 1 → ¬ isRk S K i') ∧ Q w wr) := by
                    refine ⟨fun i' hi' => ?_, HX.out⟩
                    rcases Nat.lt_or_ge i' i with c | c
                    · exact HR.out.1 i' c
                    · obtain rfl : i' = i := by omega
                      exact fun hh => h2 (HD.out.1 hh).2
                  clear HD HR HX
                  go_wp2_with fail
                  go_roundg (S.length - (i + 1))
                  case measure => go_light; omega
                  case rel => go_light; exact ⟨i + 1, by simp, by omega, rfl, HN⟩
              · have h1' : ¬ (p : Int) ≤ (K : Int) := by omega
                have HN : Hid ((∀ i', i' < i + 1 → ¬ isRk S K i') ∧ Q w wr) := by
                  refine ⟨fun i' hi' => ?_, HX.out⟩
                  rcases Nat.lt_or_ge i' i with c | c
                  · exact HR.out.1 i' c
                  · obtain rfl : i' = i := by omega
                    exact fun hh => h1 (HD.out.1 hh).1
                clear HD HR HX
                go_wp2_with fail
                go_roundg (S.length - (i + 1))
                case measure => go_light; omega
                case rel => go_light; exact ⟨i + 1, by simp, by omega, rfl, HN⟩
        · exfalso
          obtain ⟨i', h1, h2⟩ := isRk_some HM.out hK
          exact HR.out.1 i' (by omega) h2
set_option maxHeartbeats 4000000 in
set_option maxRecDepth 100000 in
theorem s16share_any (v : Value) (S : List Nat) (num den : Int) (w : World) (hv : USl w v S) (hb : ∀ i, S.getD i 0 < 4294967296) (hn : S.length ≤ 1000000) (h1 : 1 ≤ S.length) :
    Calls Tryz.prog 22 #[v, .int .i64 num, .int .i64 den] w fun e w' => e = .returned (.tuple #[.int .u32 ((sshV 0 S num den).1 : Nat), .int .i64 (sshV 0 S num den).2]) ∧ Q w w' := by
  obtain ⟨ad, cap, rfl⟩ := hv.form
  have KR : Hid (∀ k, Calls Tryz.prog 21 #[.slice ad S.length cap, .int .i64 k] w fun e w' => e = .returned (.tuple #[.int .u32 ((srkV 0 S k).1 : Nat), .int .i64 (srkV 0 S k).2]) ∧ Q w w') := fun k => s16rank_any _ S k w hv hb hn
  unfold sshV
  rw [if_neg (fun h => h rfl)]
  clear hv hb
  generalize S.length = n at *
  by_cases h0 : den < 1
  · rw [if_pos (Or.inl h0)]
    go_enter Tryz.func22, Tryz.ntmps22
    go_wp2_with fail
    go_ret2
    exact ⟨rfl, Q.refl _⟩
  · by_cases g1 : 1048576 < den
    · rw [if_pos (Or.inr (Or.inl g1))]
      go_enter Tryz.func22, Tryz.ntmps22
      go_wp2_with fail
      go_ret2
      exact ⟨rfl, Q.refl _⟩
    · by_cases h2 : num < 0
      · rw [if_pos (Or.inr (Or.inr (Or.inl h2)))]
        go_enter Tryz.func22, Tryz.ntmps22
        go_wp2_with fail
        go_ret2
        exact ⟨rfl, Q.refl _⟩
      · by_cases h3 : den < num
        · rw [if_pos (Or.inr (Or.inr (Or.inr h3)))]
          go_enter Tryz.func22, Tryz.ntmps22
          go_wp2_with fail
          go_ret2
          exact ⟨rfl, Q.refl _⟩
        · rw [if_neg (by omega)]
          obtain ⟨m, hm⟩ : ∃ m, ((n : Int) - 1) * num = m := ⟨_, rfl⟩
          have hmb : 0 ≤ m ∧ m ≤ 1000000 * 1048576 := by
            rw [← hm]
            refine ⟨Int.mul_nonneg (by omega) (by omega), ?_⟩
            exact Int.le_trans (Int.mul_le_mul_of_nonneg_right (by omega) (by omega)) (Int.mul_le_mul_of_nonneg_left (by omega) (by omega))
          obtain ⟨k, hk⟩ : ∃ k, m / den = k := ⟨_, rfl⟩
          have hkb : 0 ≤ k ∧ k ≤ m := by
            rw [← hk]
            exact ⟨Int.ediv_nonneg hmb.1 (by omega), Int.ediv_le_self _ hmb.1⟩
          have et : Int.tdiv m den = k := by rw [Int.tdiv_eq_ediv_of_nonneg hmb.1]; exact hk
          rw [hm, hk]
          have HR : Hid _ := KR.out k
          generalize (srkV 0 S k).1 = v0 at *
          generalize (srkV 0 S k).2 = v1 at *
          have em : wrap64 (((n : Int) - 1) * num) = m := by rw [hm]; unfold wrap64; omega
          have hd0 : (den == 0) = false := by simp; omega
          clear KR hk
          go_enter Tryz.func22, Tryz.ntmps22
          go_wp2_with fail
          refine Calls.mono HR.out ?_
          rintro e w1 ⟨rfl, q1⟩
          go_wp2_with fail
          go_ret2
          exact ⟨rfl, q1⟩
end Go.Proofs.YtieojgblamkgoaaGreatDoor
/- stat: Level; the document's Class. -/
namespace Go.Proofs.YtieojgblamkgoaaGreatDoor
open Go.RowKit
set_option linter.unusedVariables false
set_option linter.unusedSimpArgs false

/-- What Level tells. -/
def slvE (E : Int) (b : Int) : Int := if E ≠ 0 then E else if bitsB b = true then 0 else 160
structure LvA (w w' : World) (E0 pw ph : Int) (n : Nat) (V : Nat → Nat) (a b : Int) (ad : Option Addr) (m cc : Nat) (E : Int) : Prop where
  q : Q w w'
  e : E = E0
  bad : E0 ≠ 0 → a = 0 ∧ b = 0 ∧ ad = none ∧ m = 0 ∧ cc = 0
  good : E0 = 0 → ∃ g, ad = some ⟨g, 0, none⟩ ∧ a = pw ∧ b = ph ∧ m = n ∧ cc = n ∧ VR w' g n (fun i => .int .u32 (V i : Nat)) ∧ w.heap.size ≤ g ∧ g < w'.heap.size
set_option maxHeartbeats 4000000 in
set_option maxRecDepth 100000 in
theorem slevel_any (pw ph : Int) (ad : Option Addr) (n c : Nat) (S : List Nat) (b : Int) (w : World) (us : USl w (.slice ad n c) S) (hS : S.length = n) (hb : ∀ i, S.getD i 0 < 4294967296) (hn : n ≤ 16384) :
    Calls Tryz.prog 23 #[.agg #[.int .i64 pw, .int .i64 ph, .slice ad n c], .int .i64 b] w fun e w' => ∃ x y ad' m cc E, e = .returned (.tuple #[.agg #[.int .i64 x, .int .i64 y, .slice ad' m cc], .int .i64 E]) ∧ LvA w w' (slvE (chk pw ph n) b) pw ph n (fun i => lvlV b.toNat S (S.getD i 0)) x y ad' m cc E := by
  have K0 := fun w => check_any pw ph ad n c (by omega) w
  obtain ⟨E, hEq⟩ : ∃ E, chk pw ph n = E := ⟨_, rfl⟩
  simp only [hEq] at K0
  have K : Hid _ := K0
  clear K0
  obtain ⟨w1, hw1⟩ : ∃ w1, (w.alloc (.cells #[.int .i64 pw, .int .i64 ph, .slice ad n c] 26)).alloc (.cells #[.int .i64 0, .int .i64 0, .slice none 0 0] 26) = w1 := ⟨_, rfl⟩
  obtain ⟨A, hA⟩ : ∃ A, w.heap.size = A := ⟨_, rfl⟩
  have q1 : Q w w1 := by rw [← hw1]; exact ((Q.refl w).cells _ _).cells _ _
  have z0 : w1.cell? ⟨A, 0, none⟩ = some (.int .i64 pw) := by rw [← hw1, ← hA]; simp [go_sem]
  have z1 : w1.cell? ⟨A, 1, none⟩ = some (.int .i64 ph) := by rw [← hw1, ← hA]; simp [go_sem]
  have z2 : w1.cell? ⟨A, 2, none⟩ = some (.slice ad n c) := by rw [← hw1, ← hA]; simp [go_sem]
  have r0 : w1.cell? ⟨A + 1, 0, none⟩ = some (.int .i64 0) := by rw [← hw1, ← hA]; simp [go_sem]
  have r1 : w1.cell? ⟨A + 1, 1, none⟩ = some (.int .i64 0) := by rw [← hw1, ← hA]; simp [go_sem]
  have r2 : w1.cell? ⟨A + 1, 2, none⟩ = some (.slice none 0 0) := by rw [← hw1, ← hA]; simp [go_sem]
  have rf : ∀ j, w1.frozen? ⟨A + 1, j, none⟩ = false := fun j => by rw [← hw1, ← hA]; simp [go_sem]
  have hA1 : w1.heap.size = A + 2 := by rw [← hw1, ← hA]; simp [go_sem]
  have HQ1 : Hid (Q w w1) := q1
  have HU : Hid (USl w1 (.slice ad n c) S) := us.next q1
  have HB : Hid (∀ i, S.getD i 0 < 4294967296) := hb
  have HLA : Hid (w.heap.size ≤ A + 1) := by show _ ≤ _; omega
  have HZ : Hid (E = 0 → 1 ≤ n) := fun h => by
    obtain ⟨a, b, _, _, hs, he⟩ := chk_zero (hEq.trans h)
    have := hs.pos
    omega
  rw [hEq]
  clear q1 us hb hEq
  by_cases hE : E = 0
  · have hz := HZ.out hE
    subst hE
    have hEb : slvE 0 b = if bitsB b = true then 0 else 160 := by unfold slvE; rw [if_neg (fun h => h rfl)]
    rw [hEb]
    clear HZ hEb
    have KB := isbits_any b
    cases hbb : bitsB b
    · rw [hbb] at KB
      rw [if_neg (by decide)]
      go_enter Tryz.func23, Tryz.ntmps23
      go_wp2_with fail
      clear hw1
      refine Calls.mono (K.out _) ?_
      rintro e w2 ⟨rfl, q2⟩
      have r0 := q2.cell r0
      have r1 := q2.cell r1
      have r2 := q2.cell r2
      have rf : ∀ j, w2.frozen? ⟨A + 1, j, none⟩ = false := fun j => by rw [q2.2]; exact rf j
      go_wp2_with fail
      refine Calls.mono (KB _) ?_
      rintro e w3 ⟨rfl, hw3⟩
      obtain rfl := hw3.symm
      clear hw3
      go_wp2_with fail
      refine bodyPost_ret (v := .tuple #[.agg #[.int .i64 0, .int .i64 0, .slice none 0 0], .int .i64 160]) (by simp [results, Tryz.results23, go_sem, r0, r1, r2]) rfl ⟨_, _, _, _, _, _, rfl, ?_⟩
      exact ⟨(((HQ1.out.trans q2).set HLA.out _).set HLA.out _).set HLA.out _, rfl, fun _ => ⟨rfl, rfl, rfl, rfl, rfl⟩, fun h => by cases h⟩
    · rw [hbb] at KB
      have hbr : 1 ≤ b ∧ b ≤ 12 := by unfold bitsB at hbb; simpa using hbb
      rw [if_pos rfl]
      obtain ⟨B, rfl⟩ : ∃ B : Nat, b = (B : Int) := ⟨b.toNat, by omega⟩
      rw [Int.toNat_natCast]
      subst hS
      obtain ⟨g, o, cap, hv, hcap, hI⟩ := HU.out.some (by omega)
      injection hv with hv1 hv2 hv3
      subst hv1 hv3
      clear hv2
      have KL : Hid (∀ x, Q w1 x → Calls Tryz.prog 60 #[.agg #[.int .i64 pw, .int .i64 ph, .slice (some ⟨g, o, none⟩) S.length c], .int .i64 (B : Int)] x fun e w' => ∃ G, e = .returned (.agg #[.int .i64 pw, .int .i64 ph, .slice (some ⟨G, 0, none⟩) S.length S.length]) ∧ VR w' G S.length (fun i => .int .u32 ((lvlV B S (S.getD i 0) : Nat) : Int)) ∧ x.heap.size ≤ G ∧ Q x w') := fun x q => levelled_any B pw ph g o c S x (by omega) (by omega) (hI.next q) hcap HB.out hz hn
      clear HU HB hI
      go_enter Tryz.func23, Tryz.ntmps23
      go_wp2_with fail
      clear hw1
      refine Calls.mono (K.out _) ?_
      rintro e w2 ⟨rfl, q2⟩
      have z0 := q2.cell z0
      have z1 := q2.cell z1
      have z2 := q2.cell z2
      go_wp2_with fail
      refine Calls.mono (KB _) ?_
      rintro e w3 ⟨rfl, hw3⟩
      obtain rfl := hw3.symm
      clear hw3
      go_wp2_with fail
      refine Calls.mono (KL.out _ q2) ?_
      rintro e w4 ⟨G, rfl, hG, lG, q4⟩
      have q24 := q2.trans q4
      have r0 := q24.cell r0
      have r1 := q24.cell r1
      have r2 := q24.cell r2
      have rf : ∀ j, w4.frozen? ⟨A + 1, j, none⟩ = false := fun j => by rw [q24.2]; exact rf j
      have hsz := q2.1.size
      have HQ4 : Hid (Q w w4) := HQ1.out.trans q24
      clear q2 q4 q24
      go_wp2_with fail
      have hGA : A + 1 ≠ G := by omega
      refine bodyPost_ret (v := .tuple #[.agg #[.int .i64 pw, .int .i64 ph, .slice (some ⟨G, 0, none⟩) S.length S.length], .int .i64 0]) (by simp [results, Tryz.results23, go_sem, r0, r1, r2]) rfl ⟨_, _, _, _, _, _, rfl, ?_⟩
      have hG' := ((hG.other (p := ⟨A + 1, 0, none⟩) hGA (.int .i64 pw)).other (p := ⟨A + 1, 1, none⟩) hGA (.int .i64 ph)).other (p := ⟨A + 1, 2, none⟩) hGA (.slice (some ⟨G, 0, none⟩) S.length S.length)
      exact ⟨((HQ4.out.set HLA.out _).set HLA.out _).set HLA.out _, rfl, fun h => absurd rfl h, fun _ => ⟨G, rfl, rfl, rfl, rfl, rfl, hG', by omega, hG'.lt hz⟩⟩
  · have hEb : slvE E b = E := by unfold slvE; rw [if_pos hE]
    rw [hEb]
    have hne : (E != 0) = true := by simpa using hE
    have HE : Hid (E ≠ 0) := hE
    clear hE HZ hEb
    go_enter Tryz.func23, Tryz.ntmps23
    go_wp2_with fail
    clear hw1
    refine Calls.mono (K.out _) ?_
    rintro e w2 ⟨rfl, q2⟩
    have r0 := q2.cell r0
    have r1 := q2.cell r1
    have r2 := q2.cell r2
    have rf : ∀ j, w2.frozen? ⟨A + 1, j, none⟩ = false := fun j => by rw [q2.2]; exact rf j
    go_wp2_with fail
    refine bodyPost_ret (v := .tuple #[.agg #[.int .i64 0, .int .i64 0, .slice none 0 0], .int .i64 E]) (by simp [results, Tryz.results23, go_sem, r0, r1, r2]) rfl ⟨_, _, _, _, _, _, rfl, ?_⟩
    exact ⟨(((HQ1.out.trans q2).set HLA.out _).set HLA.out _).set HLA.out _, rfl, fun _ => ⟨rfl, rfl, rfl, rfl, rfl⟩, fun h => absurd h HE.out⟩
set_option maxHeartbeats 2000000 in
theorem r16cls_any (b s : Nat) (h1 : 1 ≤ b) (h2 : b ≤ 12) (hs : s < 4294967296) (w : World) : Calls Tryz.prog 62 #[.int .u32 (s : Int), .int .i64 (b : Int)] w fun e w' => e = .returned (.int .i64 (clsN b s : Nat)) ∧ w' = w := by
  have K := r4key_any s hs
  have hl := keyN_lt hs
  unfold clsN
  generalize keyN s = k at *
  have hd : k / 2 ^ (32 - b) ≤ k := Nat.div_le_self _ _
  have hc : ((k : Int) / 2 ^ (32 - b)) = ((k / 2 ^ (32 - b) : Nat) : Int) := by simp
  obtain ⟨q, hq⟩ : ∃ q, k / 2 ^ (32 - b) = q := ⟨_, rfl⟩
  rw [hq] at hd hc ⊢
  have HC : Hid ((k : Int) / 2 ^ (32 - b) = (q : Int)) := hc
  clear hc hq
  go_enter Tryz.func62, Tryz.ntmps62
  go_wp2_with fail
  refine Calls.mono (K _) ?_
  rintro e w1 ⟨rfl, hw⟩
  obtain rfl := hw.symm
  clear hw
  have ew : wrap64 ((32 : Int) - (b : Int)) = ((32 - b : Nat) : Int) := by unfold wrap64; omega
  go_wp2_with fail
  rw [HC.out]
  go_ret
  exact ⟨rfl, rfl⟩
end Go.Proofs.YtieojgblamkgoaaGreatDoor
/- The document's Level (layer 16). -/
namespace Go.Proofs.YtieojgblamkgoaaGreatDoor
open Go.RowKit
set_option linter.unusedVariables false
set_option linter.unusedSimpArgs false

theorem run_quo64 {P : Program} (w : World) : True := trivial
/-- A list partly summed. -/
def pfxV (c : Nat → Nat) (i j : Nat) : Nat := if j < i then preN c j else c j
theorem pfx_step {c : Nat → Nat} {i : Nat} : (∀ j, j ≠ i → pfxV c (i + 1) j = pfxV c i j) ∧ pfxV c (i + 1) i = preN c i := by
  refine ⟨fun j hj => ?_, by unfold pfxV; rw [if_pos (by omega)]⟩
  unfold pfxV
  by_cases h : j < i
  · rw [if_pos h, if_pos (by omega)]
  · rw [if_neg h, if_neg (by omega)]
theorem pfx_one {c : Nat → Nat} (j : Nat) : pfxV c 1 j = c j := by
  unfold pfxV
  by_cases h : j < 1
  · rw [if_pos h]; obtain rfl : j = 0 := by omega
    rfl
  · rw [if_neg h]
theorem lvl_take {b : Nat} {L : List Nat} {i : Nat} (h : i < L.length) : (lvlL b L).take (i + 1) = (lvlL b L).take i ++ [lvlV b L (L.getD i 0)] := by
  rw [take_snocS (by rw [lvlL_len]; exact h), lvlL_get h]
theorem clsC_num {b : Nat} {S : List Nat} {i : Nat} (h : i < S.length) (j : Nat) : clsC b (numL (S.take (i + 1))) j = clsC b (numL (S.take i)) j + if nanN (S.getD i 0) = true then 0 else if clsN b (S.getD i 0) = j then 1 else 0 := by
  rw [take_snocS h, numL_snoc]
  cases nanN (S.getD i 0)
  · rw [cond_false, clsC_snoc]; simp
  · rw [cond_true, List.append_nil]; simp
theorem numL_num {S : List Nat} {i : Nat} (h : i < S.length) : (numL (S.take (i + 1))).length = (numL (S.take i)).length + if nanN (S.getD i 0) = true then 0 else 1 := by
  rw [take_snocS h, numL_snoc]
  cases nanN (S.getD i 0)
  · rw [cond_false, List.length_append]; simp
  · rw [cond_true, List.append_nil]; simp
set_option maxHeartbeats 8000000 in
set_option maxRecDepth 100000 in
theorem s16level_any (v : Value) (S : List Nat) (b : Int) (w : World) (hv : USl w v S) (hb : ∀ i, S.getD i 0 < 4294967296) (hn : S.length ≤ 16384) :
    Calls Tryz.prog 24 #[v, .int .i64 b] w fun e w' => ∃ u, e = .returned (.tuple #[u, .int .i64 (if bitsB b = true then 0 else 160)]) ∧ USl w' u (if bitsB b = true then lvlL b.toNat S else []) ∧ (∀ g o n c, u = .slice (some ⟨g, o, none⟩) n c → w.heap.size ≤ g) ∧ Q w w' := by
  obtain ⟨ad, cap, rfl⟩ := hv.form
  have KB := isd16_any b
  cases hbb : bitsB b
  · rw [hbb] at KB
    rw [if_neg (by decide), if_neg (by decide)]
    go_enter Tryz.func24, Tryz.ntmps24
    go_wp2_with fail
    refine Calls.mono (KB _) ?_
    rintro e w1 ⟨rfl, hw⟩
    obtain rfl := hw.symm
    go_wp2_with fail
    go_ret2
    exact ⟨_, rfl, Or.inr ⟨_, _, rfl, rfl⟩, fun g o n c e => (by cases e), Q.refl _⟩
  · rw [hbb] at KB
    have hbr : 1 ≤ b ∧ b ≤ 12 := by unfold bitsB at hbb; simpa using hbb
    rw [if_pos rfl, if_pos rfl]
    obtain ⟨B, rfl⟩ : ∃ B : Nat, b = (B : Int) := ⟨b.toNat, by omega⟩
    rw [Int.toNat_natCast]
    have h1 : 1 ≤ B := by omega
    have h2 : B ≤ 12 := by omega
    have hp : 2 ^ B ≤ 2 ^ 12 := Nat.pow_le_pow_right (by decide) h2
    have hp1 : 1 ≤ 2 ^ B := Nat.one_le_two_pow
    obtain ⟨M, hM, hV⟩ := make_vi (2 ^ B) (by omega)
    have ew : wrap64 ((2 : Int) ^ B) = ((2 ^ B : Nat) : Int) := by
      have : ((2 : Int) ^ B) = ((2 ^ B : Nat) : Int) := by simp
      rw [this]
      unfold wrap64; omega
    have hMw := hM w
    rw [← ew] at hMw
    have hVw := hV w
    have q1 : Q w (w.alloc (.cells M 3)) := (Q.refl w).cells _ _
    have HCl : Hid (∀ s : Nat, s < 4294967296 → ∀ x : World, Calls Tryz.prog 62 #[.int .u32 (s : Int), .int .i64 (B : Int)] x fun e w' => e = .returned (.int .i64 (clsN B s : Nat)) ∧ w' = x) := fun s hs x => r16cls_any B s h1 h2 hs x
    have HNa : Hid (∀ s : Nat, s < 4294967296 → ∀ x : World, Calls Tryz.prog 61 #[.int .u32 (s : Int)] x fun e w' => e = .returned (.bool (nanN s)) ∧ w' = x) := fun s hs x => r4nan_any s hs x
    have HL : Hid (∀ s : Nat, s < 4294967296 → clsN B s < 2 ^ B) := fun s hs => cls_lt h2 hs
    have HV : Hid (USl w (.slice ad S.length cap) S) := hv
    have HB : Hid (∀ i, S.getD i 0 < 4294967296) := hb
    have HE : Hid (S.take S.length = S) := List.take_of_length_le (Nat.le_refl _)
    have HN : Hid (2 ^ B ≤ 4096) := hp
    obtain ⟨N, hN⟩ : ∃ N, 2 ^ B = N := ⟨_, rfl⟩
    rw [hN] at hMw hVw HL HN hp1
    clear hM hV hb hv hbb hbr hp hN ew
    obtain ⟨H, hH⟩ : ∃ H, w.heap.size = H := ⟨_, rfl⟩
    rw [hH] at hMw hVw
    go_enter Tryz.func24, Tryz.ntmps24
    go_wp2_with fail
    refine Calls.mono (KB _) ?_
    rintro e w1 ⟨rfl, hw⟩
    obtain rfl := hw.symm
    clear hw KB
    go_wp2_with fail
    generalize w.alloc (.cells M 3) = w2 at *
    have H0 : Hid (VR w2 H N (fun j => .int .i64 ((clsC B (numL (S.take 0)) j : Nat) : Int)) ∧ Q w w2) := ⟨hVw.congr fun j _ => by rw [List.take_zero]; rfl, q1⟩
    have HH : Hid (w.heap.size ≤ H) := Nat.le_of_eq hH
    clear hVw q1 hMw
    go_loopg [7, 8] S.length (fun m s7 s8 wr => ∃ i : Nat, s7 = .int .i64 ((numL (S.take i)).length : Int) ∧ s8 = .int .i64 (i : Int) ∧ i + m = S.length ∧ Hid (VR wr H N (fun j => .int .i64 ((clsC B (numL (S.take i)) j : Nat) : Int)) ∧ Q w wr))
    case atStart => exact ⟨0, rfl, rfl, by omega, H0⟩
    case round =>
      clear H0
      obtain ⟨i, rfl, rfl, hi, HX⟩ := hrel
      by_cases hlt : i < S.length
      · obtain ⟨g, o, cap', hsl, hcap', hI⟩ := HV.out.some (by omega)
        injection hsl with hs1 hs2 hs3
        subst hs1 hs3
        clear hs2
        have hc := HX.out.2.cell (hI i hlt)
        have hx := HB.out i
        have hki : (i : Int) < (S.length : Int) := by omega
        have hcn := fun j => clsC_num (b := B) hlt j
        have hnn := numL_num hlt
        have hnl : (numL (S.take i)).length ≤ S.length := Nat.le_trans (numL_len _) (by rw [List.length_take]; omega)
        have hcl : ∀ j, clsC B (numL (S.take i)) j ≤ S.length := fun j => Nat.le_trans (clsC_le B _ j) hnl
        generalize S.getD i 0 = s at *
        clear hI hcap'
        generalize (numL (S.take i)).length = p at *
        cases hk : nanN s
        · have hkl := HL.out s hx
          have hce := HX.out.1.cell _ hkl
          have fz := HX.out.1.free (clsN B s)
          have hbd := hcl (clsN B s)
          have HY : Hid (VR (wr.setCell ⟨H, clsN B s, none⟩ (.int .i64 ((clsC B (numL (S.take i)) (clsN B s) + 1 : Nat) : Int))) H N (fun j => .int .i64 ((clsC B (numL (S.take (i + 1))) j : Nat) : Int)) ∧ Q w (wr.setCell ⟨H, clsN B s, none⟩ (.int .i64 ((clsC B (numL (S.take i)) (clsN B s) + 1 : Nat) : Int)))) := by
            refine ⟨HX.out.1.put hkl ?_ fun j hj hne => ?_, HX.out.2.set HH.out _⟩
            · rw [hcn, hk, if_neg (by decide), if_pos rfl]
            · rw [hcn, hk, if_neg (by decide), if_neg (fun e => hne e.symm), Nat.add_zero]
          have HP : Hid ((numL (S.take (i + 1))).length = p + 1) := by show _ = _; rw [hnn, hk, if_neg (by decide)]
          have K1 := HNa.out s hx
          have K2 := HCl.out s hx
          rw [hk] at K1
          clear hcn hnn hcl
          generalize clsC B (numL (S.take i)) (clsN B s) = m at *
          generalize clsN B s = k at *
          have hkk : (k : Int) < (N : Int) := by omega
          go_wp2_with fail
          refine Calls.mono (K1 _) ?_
          rintro e w3 ⟨rfl, hw⟩
          obtain rfl := hw.symm
          clear hw
          go_wp2_with fail
          refine Calls.mono (K2 _) ?_
          rintro e w3 ⟨rfl, hw⟩
          obtain rfl := hw.symm
          clear hw
          go_wp2_with fail
          go_roundg (S.length - (i + 1))
          case measure => go_light; omega
          case rel => go_light; exact ⟨i + 1, by rw [HP.out]; go_num, by go_num, by omega, HY⟩
        · have HY : Hid (VR wr H N (fun j => .int .i64 ((clsC B (numL (S.take (i + 1))) j : Nat) : Int)) ∧ Q w wr) := ⟨HX.out.1.congr fun j _ => by rw [hcn, hk, if_pos rfl, Nat.add_zero], HX.out.2⟩
          have HP : Hid ((numL (S.take (i + 1))).length = p) := by show _ = _; rw [hnn, hk, if_pos rfl, Nat.add_zero]
          have K1 := HNa.out s hx
          rw [hk] at K1
          clear hcn hnn hcl
          go_wp2_with fail
          refine Calls.mono (K1 _) ?_
          rintro e w3 ⟨rfl, hw⟩
          obtain rfl := hw.symm
          clear hw
          go_wp2_with fail
          go_roundg (S.length - (i + 1))
          case measure => go_light; omega
          case rel => go_light; exact ⟨i + 1, by rw [HP.out], by go_num, by omega, HY⟩
      · obtain rfl : i = S.length := by omega
        have hge : ¬ (S.length : Int) < (S.length : Int) := by omega
        rw [HE.out] at HX ⊢
        have HX1 : Hid (VR wr H N (fun j => .int .i64 ((pfxV (clsC B (numL S)) 1 j : Nat) : Int)) ∧ Q w wr) := ⟨HX.out.1.congr fun j _ => by rw [pfx_one], HX.out.2⟩
        have HPB : Hid (∀ j, preN (clsC B (numL S)) j ≤ S.length) := fun j => Nat.le_trans (preN_le B _ j) (numL_len S)
        clear HX
        go_wp2_with fail
        go_loopg [9] (N - 1) (fun m s9 wr => ∃ i : Nat, s9 = .int .i64 ((i : Int) + 1) ∧ i + 1 + m = N ∧ Hid (VR wr H N (fun j => .int .i64 ((pfxV (clsC B (numL S)) (i + 1) j : Nat) : Int)) ∧ Q w wr))
        case atStart => exact ⟨0, rfl, by omega, HX1⟩
        case round =>
          clear HX1
          obtain ⟨i, rfl, hi, HX⟩ := hrel
          by_cases hlt : i + 1 < N
          · have hki : (i : Int) + 1 < (N : Int) := by omega
            have hkj : (i : Int) < (N : Int) := by omega
            have c0 := HX.out.1.cell (i + 1) hlt
            have c1 := HX.out.1.cell i (by omega)
            have fz := HX.out.1.free (i + 1)
            have v0 : pfxV (clsC B (numL S)) (i + 1) (i + 1) = clsC B (numL S) (i + 1) := by unfold pfxV; rw [if_neg (by omega)]
            have v1 : pfxV (clsC B (numL S)) (i + 1) i = preN (clsC B (numL S)) i := by unfold pfxV; rw [if_pos (by omega)]
            have v2 : preN (clsC B (numL S)) (i + 1) = preN (clsC B (numL S)) i + clsC B (numL S) (i + 1) := rfl
            rw [v0] at c0
            rw [v1] at c1
            have hbd := HPB.out (i + 1)
            rw [v2] at hbd
            have HY : Hid (∀ x, Q wr x → VR (x.setCell ⟨H, i + 1, none⟩ (.int .i64 ((clsC B (numL S) (i + 1) + preN (clsC B (numL S)) i : Nat) : Int))) H N (fun j => .int .i64 ((pfxV (clsC B (numL S)) (i + 1 + 1) j : Nat) : Int)) ∧ Q w (x.setCell ⟨H, i + 1, none⟩ (.int .i64 ((clsC B (numL S) (i + 1) + preN (clsC B (numL S)) i : Nat) : Int)))) := fun x q => by
              refine ⟨(HX.out.1.next q).put hlt ?_ fun j hj hne => ?_, (HX.out.2.trans q).set HH.out _⟩
              · rw [pfx_step.2, v2, Nat.add_comm]
              · rw [pfx_step.1 j hne]
            clear v0 v1 v2
            generalize clsC B (numL S) (i + 1) = p at *
            generalize preN (clsC B (numL S)) i = q at *
            have HFZ : Hid (∀ x, Q wr x → x.frozen? ⟨H, i + 1, none⟩ = false) := fun x q => by rw [q.2]; exact fz
            have HC0 : Hid (wr.cell? ⟨H, i + 1, none⟩ = some (.int .i64 (p : Int))) := c0
            have d0 := qw_cell c0
            have d1 := qw_cell c1
            have n0 := qw_some wr
            have hNb := HN.out
            clear c0 c1 fz
            go_wp2_with fail
            refine wp_lastR 13 rfl _ rfl (by kernel_rfl) (by kernel_rfl) (by kernel_rfl) ?_
            simp only [List.take_succ_cons, List.take_zero]
            repeat (first | go_big_quiet_step (fail) | quiet_step (fail))
            refine wpQuiet_nil ?_
            intro nn K hK
            have c0 := nn.q.cell HC0.out
            have fz := HFZ.out nn.x nn.q
            have HYn : Hid _ := HY.out nn.x nn.q
            clear d0 d1 n0 HY HFZ HC0 HX
            generalize nn.x = xn at *
            go_wp2_with fail
            go_roundg (N - (i + 1 + 1))
            case measure => go_light; omega
            case rel => go_light; exact ⟨i + 1, by go_num, by omega, HYn⟩
          · have hin : i + 1 = N := by omega
            have hge : ¬ ((i : Int) + 1) < (N : Int) := by omega
            have HP : Hid (∀ j, j < N → wr.cell? ⟨H, j, none⟩ = some (.int .i64 ((preN (clsC B (numL S)) j : Nat) : Int))) := fun j hj => by
              have := HX.out.1.cell j hj
              unfold pfxV at this
              rw [if_pos (by omega)] at this
              exact this
            have HQ : Hid (Q w wr) := HX.out.2
            clear HX
            go_wp2_with fail
            obtain ⟨w3, hw3⟩ : ∃ w3, wr = w3 := ⟨_, rfl⟩
            rw [hw3] at HP HQ ⊢
            clear hw3 hin
            go_loopg [10, 11] S.length (fun m s10 s11 wr => ∃ (u : Value) (k : Nat), u = s10 ∧ s11 = .int .i64 (k : Int) ∧ k + m = S.length ∧ Hid (OwnR w3 wr u ((lvlL B S).take k)))
            case atStart => exact ⟨_, 0, rfl, rfl, by omega, OwnR.start w3 w3 (Q.refl w3)⟩
            case round =>
              obtain ⟨u, k, rfl, rfl, hk, HX⟩ := hrel
              by_cases hlt : k < S.length
              · obtain ⟨g, o, cap', hsl, hcap', hI⟩ := HV.out.some (by omega)
                injection hsl with hs1 hs2 hs3
                subst hs1 hs3
                clear hs2
                have hc := HX.out.2.cell (HQ.out.cell (hI k hlt))
                have hx := HB.out k
                have hki : (k : Int) < (S.length : Int) := by omega
                have ht := lvl_take (b := B) hlt
                have hmem : S.getD k 0 ∈ S := by
                  rw [List.getD_eq_getElem?_getD, List.getElem?_eq_getElem hlt]
                  exact List.getElem_mem hlt
                have hll : ((lvlL B S).take k).length + 1 ≤ 100000 := by rw [List.length_take]; omega
                generalize S.getD k 0 = s at *
                clear hI hcap'
                generalize (lvlL B S).take k = E0 at *
                cases hn2 : nanN s
                · have hmn : s ∈ numL S := by unfold numL; rw [List.mem_filter]; exact ⟨hmem, by rw [hn2]; rfl⟩
                  have h1n : 1 ≤ (numL S).length := List.length_pos_of_mem hmn
                  have hnl : (numL S).length ≤ 16384 := Nat.le_trans (numL_len S) hn
                  have hvl : lvlV B S s = shN (preN (clsC B (numL S)) (clsN B s)) (numL S).length := by unfold lvlV; rw [hn2]; rfl
                  have hkl := HL.out s hx
                  have hce := HX.out.2.cell (HP.out _ hkl)
                  obtain ⟨r, hr, hcv⟩ := sh_conv h1n hnl (preN_le B (numL S) (clsN B s))
                  have l2 := f32bits
                  rw [← hvl] at hcv
                  have HT : Hid ((lvlL B S).take (k + 1) = E0 ++ [lvlV B S s]) := ht
                  have K1 := HNa.out s hx
                  have K2 := HCl.out s hx
                  rw [hn2] at K1
                  clear hvl hmem hmn ht
                  generalize preN (clsC B (numL S)) (clsN B s) = m at *
                  generalize clsN B s = c at *
                  generalize lvlV B S s = x at *
                  have l5 := fun w => run_float_arith (P := Tryz.prog) w .quo 108 .f64 _ _ r hr
                  have l1 := fun w => run_convert_float_float (P := Tryz.prog) w 108 64 .f64 .f32 r _ (by kernel_rfl) Tryz.underlying64 hcv
                  have hkk : (c : Int) < (N : Int) := by omega
                  obtain ⟨w6, hw6⟩ : ∃ w6, wr.alloc (.cells #[.int .u32 (x : Int)] 43) = w6 := ⟨_, rfl⟩
                  have o6 := HX.out.next (show Q wr w6 by rw [← hw6]; exact (Q.refl wr).cells _ _)
                  have c6 : w6.cell? ⟨wr.heap.size, 0, none⟩ = some (.int .u32 (x : Int)) := by rw [← hw6]; simp [go_sem]
                  have HO6 : Hid _ := And.intro o6 c6
                  clear o6 c6 hr hcv HX
                  go_wp2_with fail
                  refine Calls.mono (K1 _) ?_
                  rintro e w4 ⟨rfl, hw⟩
                  obtain rfl := hw.symm
                  clear hw
                  go_wp2_with fail
                  refine Calls.mono (K2 _) ?_
                  rintro e w4 ⟨rfl, hw⟩
                  obtain rfl := hw.symm
                  clear hw
                  go_wp2_with (at_builtin; go_must (refine wpList_addR _ w3 rfl _ _ rfl u E0 rfl HO6.out.1 wr.heap.size x rfl HO6.out.2 (by omega) ?_))
                  intro v' w7 ho7
                  have HO7 : Hid (OwnR w3 w7 v' ((lvlL B S).take (k + 1))) := by
                    show OwnR w3 w7 v' ((lvlL B S).take (k + 1))
                    rw [HT.out]; exact ho7
                  clear ho7 hw6 HO6
                  go_wp2_with fail
                  go_roundg (S.length - (k + 1))
                  case measure => go_light; omega
                  case rel => go_light; exact ⟨v', k + 1, rfl, by go_num, by omega, HO7⟩
                · have hvl : lvlV B S s = s := by unfold lvlV; rw [hn2]; rfl
                  rw [hvl] at ht
                  have HT : Hid ((lvlL B S).take (k + 1) = E0 ++ [s]) := ht
                  have K1 := HNa.out s hx
                  rw [hn2] at K1
                  obtain ⟨w6, hw6⟩ : ∃ w6, wr.alloc (.cells #[.int .u32 (s : Int)] 43) = w6 := ⟨_, rfl⟩
                  have o6 := HX.out.next (show Q wr w6 by rw [← hw6]; exact (Q.refl wr).cells _ _)
                  have c6 : w6.cell? ⟨wr.heap.size, 0, none⟩ = some (.int .u32 (s : Int)) := by rw [← hw6]; simp [go_sem]
                  have HO6 : Hid _ := And.intro o6 c6
                  clear o6 c6 HX ht hvl hmem
                  go_wp2_with fail
                  refine Calls.mono (K1 _) ?_
                  rintro e w4 ⟨rfl, hw⟩
                  obtain rfl := hw.symm
                  clear hw
                  go_wp2_with (at_builtin; go_must (refine wpList_addR _ w3 rfl _ _ rfl u E0 rfl HO6.out.1 wr.heap.size s rfl HO6.out.2 (by omega) ?_))
                  intro v' w7 ho7
                  have HO7 : Hid (OwnR w3 w7 v' ((lvlL B S).take (k + 1))) := by
                    show OwnR w3 w7 v' ((lvlL B S).take (k + 1))
                    rw [HT.out]; exact ho7
                  clear ho7 hw6 HO6
                  go_wp2_with fail
                  go_roundg (S.length - (k + 1))
                  case measure => go_light; omega
                  case rel => go_light; exact ⟨v', k + 1, rfl, by go_num, by omega, HO7⟩
              · obtain rfl : k = S.length := by omega
                have hge2 : ¬ (S.length : Int) < (S.length : Int) := by omega
                have HF : Hid (USl wr u (lvlL B S)) := by
                  have := HX.out.usl
                  rw [List.take_of_length_le (by rw [lvlL_len]; exact Nat.le_refl _)] at this
                  exact this
                have HQF : Hid (Q w wr) := HQ.out.trans HX.out.2
                have HGB : Hid (∀ g o n c, u = .slice (some ⟨g, o, none⟩) n c → w.heap.size ≤ g) := fun g o n c e => by
                  have hsz := HQ.out.1.size
                  rcases HX.out.1.2 with ⟨e2, _⟩ | ⟨g', c', cur, e2, hg, _⟩
                  · rw [e2] at e; cases e
                  · rw [e2] at e
                    injection e with e
                    injection e with e
                    injection e with e
                    omega
                clear HX
                go_wp2_with fail
                go_ret2
                exact ⟨_, rfl, HF.out, fun g o n c e => (by have := HGB.out g o n c e; omega), HQF.out⟩
end Go.Proofs.YtieojgblamkgoaaGreatDoor
/- halidehelp.Spoil: no block but the list's turns. -/
namespace Go.Proofs.YtieojgblamkgoaaGreatDoor
open Go.RowKit
set_option linter.unusedVariables false
set_option linter.unusedSimpArgs false

/-- A list of samples, whatever they are, that may be written. -/
structure SpW (x : World) (g n : Nat) : Prop where
  cell : ∀ i, i < n → ∃ z : Int, x.cell? ⟨g, i, none⟩ = some (.int .u32 z)
  free : ∀ j, x.frozen? ⟨g, j, none⟩ = false
theorem SpW.set {x : World} {g n i : Nat} (h : SpW x g n) (z : Int) : SpW (x.setCell ⟨g, i, none⟩ (.int .u32 z)) g n := by
  refine ⟨fun j hj => ?_, fun j => by rw [World.frozen?_setCell]; exact h.free j⟩
  obtain ⟨y, hy⟩ := h.cell j hj
  by_cases e : j = i
  · subst e; exact ⟨z, World.cell?_setCell_same _ _ _ hy⟩
  · exact ⟨y, (World.cell?_setCell_other _ _ _ _ (fun k => e (by injection k with _ k; exact k.symm))).trans hy⟩
theorem SpW.next {x x' : World} {g n : Nat} (h : SpW x g n) (q : Q x x') : SpW x' g n :=
  ⟨fun i hi => by obtain ⟨z, hz⟩ := h.cell i hi; exact ⟨z, q.cell hz⟩, fun j => by rw [q.2]; exact h.free j⟩
set_option maxHeartbeats 4000000 in
set_option maxRecDepth 100000 in
theorem spoil_fb (w : World) (a b : Int) (g n c : Nat) (h : SpW w g n) (hn1 : 1 ≤ n) (hn : n ≤ 9223372036854775807) (hc : n ≤ c) :
    Calls Tryz.prog 25 #[.agg #[.int .i64 a, .int .i64 b, .slice (some ⟨g, 0, none⟩) n c]] w fun e w' => e = .returned (.tuple #[]) ∧ Fb g w w' := by
  obtain ⟨w1, hw1⟩ : ∃ w1, w.alloc (.cells #[.int .i64 a, .int .i64 b, .slice (some ⟨g, 0, none⟩) n c] 26) = w1 := ⟨_, rfl⟩
  have q1 : Q w w1 := by rw [← hw1]; exact (Q.refl w).cells _ _
  have p2 : w1.cell? ⟨w.heap.size, 2, none⟩ = some (.slice (some ⟨g, 0, none⟩) n c) := by rw [← hw1]; simp [go_sem]
  obtain ⟨B, hB⟩ : ∃ B, w.heap.size = B := ⟨_, rfl⟩
  rw [hB] at p2
  have hgB : g ≠ B := by
    obtain ⟨z, hz⟩ := h.cell 0 (by omega)
    have := World.block_lt_of_cell? _ _ hz
    simp only at this
    omega
  have HX : Hid (Fb g w w1 ∧ SpW w1 g n ∧ w1.cell? ⟨B, 2, none⟩ = some (.slice (some ⟨g, 0, none⟩) n c)) := ⟨q1.fb g, h.next q1, p2⟩
  clear q1 h
  go_enter Tryz.func25, Tryz.ntmps25
  go_wp2_with fail
  clear hw1 hB
  go_loopg [2] n (fun m s2 wr => ∃ i : Nat, s2 = .int .i64 (i : Int) ∧ i + m = n ∧ Hid (Fb g w wr ∧ SpW wr g n ∧ wr.cell? ⟨B, 2, none⟩ = some (.slice (some ⟨g, 0, none⟩) n c)))
  case atStart => exact ⟨0, rfl, by omega, HX⟩
  case round =>
    clear HX p2
    obtain ⟨i, rfl, hi, HX⟩ := hrel
    have p2 := HX.out.2.2
    by_cases hlt : i < n
    · have hlt' : (i : Int) < (n : Int) := by omega
      obtain ⟨z, hz⟩ := HX.out.2.1.cell i hlt
      have fr := HX.out.2.1.free i
      go_wp2_with fail
      have n0 := qw_some wr
      have f0 := qw_cell p2
      have f1 := qw_cell hz
      refine wp_region_lastn 10 rfl _ rfl (by kernel_rfl) (by kernel_rfl) (by kernel_rfl) ?_
      simp only [List.take_succ_cons, List.take_zero]
      repeat (first | go_big_quiet_step (fail) | quiet_step (fail))
      refine wpQuiet_nil ?_
      intro nn K hK
      have cz := nn.q.cell hz
      have fz : nn.x.frozen? ⟨g, i, none⟩ = false := by rw [nn.q.2]; exact fr
      have HY : Hid (Fb g w (nn.x.setCell ⟨g, i, none⟩ (.int .u32 (bits BinOp.xor IntKind.u32 z 1515870810))) ∧ SpW (nn.x.setCell ⟨g, i, none⟩ (.int .u32 (bits BinOp.xor IntKind.u32 z 1515870810))) g n ∧ (nn.x.setCell ⟨g, i, none⟩ (.int .u32 (bits BinOp.xor IntKind.u32 z 1515870810))).cell? ⟨B, 2, none⟩ = some (.slice (some ⟨g, 0, none⟩) n c)) :=
        ⟨(HX.out.1.trans (nn.q.fb g)).set rfl _, (HX.out.2.1.next nn.q).set _, (World.cell?_setCell_other _ _ _ _ (fun e => by injection e with e1 e2; omega)).trans (nn.q.cell p2)⟩
      clear n0 f0 f1
      generalize bits BinOp.xor IntKind.u32 z 1515870810 = y at HY ⊢
      go_wp2_with fail
      generalize nn.x.setCell ⟨g, i, none⟩ (.int .u32 y) = w8 at HY ⊢
      go_roundg (n - (i + 1))
      case measure => go_light; omega
      case rel => go_light; exact ⟨i + 1, by go_num, by omega, HY⟩
    · obtain rfl : i = n := by omega
      have hge : ¬ (i : Int) < (i : Int) := by omega
      go_wp2_with fail
      go_end0
      exact ⟨rfl, HX.out.1⟩
end Go.Proofs.YtieojgblamkgoaaGreatDoor
