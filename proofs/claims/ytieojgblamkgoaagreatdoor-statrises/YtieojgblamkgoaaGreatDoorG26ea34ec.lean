/- The document's Rank and Share (layer 16). -/
import Derived.Test.YtieojgblamkgoaaGreatDoorGf196db84
import Derived.Test.YtieojgblamkgoaaGreatDoorGad93b1e8
import Derived.Test.YtieojgblamkgoaaGreatDoorGf88f0262
import Derived.Test.YtieojgblamkgoaaGreatDoorGa75617b7
import Derived.Test.YtieojgblamkgoaaGreatDoorG4085d0f8
import Derived.Test.YtieojgblamkgoaaGreatDoorG66edaefc
namespace Go.Proofs.YtieojgblamkgoaaGreatDoor
open Go.RowKit
set_option linter.unusedVariables false
set_option linter.unusedSimpArgs false

theorem and_31s (s : Int) (h0 : 0 ≤ s) (h1 : s ≤ 4294967295) : bits .and .u32 s 2147483647 = s % 2147483648 := by go_bits2
set_option maxHeartbeats 400000 in
theorem r4key_any (s : Nat) (hs : s < 4294967296) (w : World) : Calls Tryz.prog 59 #[.int .u32 s] w fun e w' => e = .returned (.int .i64 (keyN s : Nat)) ∧ w' = w := by
  by_cases h : s < 2147483648
  · have h' : (s : Int) < 2147483648 := by omega
    go_enter Tryz.func59, Tryz.ntmps59
    go_wp2
    go_ret
    exact ⟨ret_int (by unfold keyN; rw [if_pos h]; omega), rfl⟩
  · have h' : ¬ (s : Int) < 2147483648 := by omega
    go_enter Tryz.func59, Tryz.ntmps59
    go_wp2
    go_ret
    exact ⟨ret_int (by unfold keyN; rw [if_neg h]; omega), rfl⟩
set_option maxHeartbeats 400000 in
theorem r4nan_any (a : Nat) (ha : a < 4294967296) (w : World) : Calls Tryz.prog 61 #[.int .u32 a] w fun e w' => e = .returned (.bool (nanN a)) ∧ w' = w := by
  have e1 := and_31s a (by omega) (by omega)
  go_enter Tryz.func61, Tryz.ntmps61
  go_wp2
  go_ret
  refine ⟨ret_bool ?_, rfl⟩
  unfold nanN
  rw [decide_eq_decide]
  omega
set_option maxHeartbeats 8000000 in
set_option maxRecDepth 100000 in
theorem s16rank_any (v : Value) (S : List Nat) (k : Int) (w : World) (hv : USl w v S) (hb : ∀ i, S.getD i 0 < 4294967296) (hn : S.length ≤ 1000000) :
    Calls Tryz.prog 21 #[v, .int .i64 k] w fun e w' => e = .returned (.tuple #[.int .u32 ((srkV 0 S k).1 : Nat), .int .i64 (srkV 0 S k).2]) ∧ Q w w' := by
  obtain ⟨ad, cap, rfl⟩ := hv.form
  unfold srkV
  rw [if_neg (fun h => h rfl)]
  by_cases h0 : k < 0
  · rw [if_pos (Or.inl h0)]
    go_enter Tryz.func21, Tryz.ntmps21
    go_wp2_with fail
    go_ret2
    exact ⟨rfl, Q.refl _⟩
  · by_cases h1 : (S.length : Int) ≤ k
    · rw [if_pos (Or.inr h1)]
      go_enter Tryz.func21, Tryz.ntmps21
      go_wp2_with fail
      go_ret2
      exact ⟨rfl, Q.refl _⟩
    · obtain ⟨K, rfl⟩ : ∃ K : Nat, k = (K : Int) := ⟨k.toNat, by omega⟩
      rw [if_neg (by omega), Int.toNat_natCast]
      have hK : K < S.length := by omega
      obtain ⟨g, o, cap', hsl, hcap, hI⟩ := hv.some (by omega)
      injection hsl with hs1 hs2 hs3
      subst hs1 hs3
      clear hs2 hv
      have HI : Hid (UIs w g o S) := hI
      have HB : Hid (∀ i, S.getD i 0 < 4294967296) := hb
      have HM : Hid (∀ s ∈ S, s < 4294967296) := mem_of_getD2 hb
      have HE : Hid (S.take S.length = S) := List.take_of_length_le (Nat.le_refl _)
      have HK : Hid (∀ s : Nat, s < 4294967296 → ∀ x, Calls Tryz.prog 59 #[.int .u32 (s : Int)] x fun e w' => e = .returned (.int .i64 (keyN s : Nat)) ∧ w' = x) := fun s hs x => r4key_any s hs x
      clear hI hb h0
      go_enter Tryz.func21, Tryz.ntmps21
      go_wp2_with fail
      go_loopg [6, 7, 8, 9] (S.length) (fun gh s6 s7 s8 s9 wr => ∃ i : Nat, s6 = .int .i64 (i : Int) ∧ i ≤ S.length ∧ gh = S.length - i ∧ Hid ((∀ i', i' < i → ¬ isRk S K i') ∧ Q w wr))
      case atStart => exact ⟨0, rfl, by omega, rfl, fun i' h => absurd h (Nat.not_lt_zero _), Q.refl _⟩
      case round =>
        obtain ⟨i, rfl, hi, rfl, HR⟩ := hrel
        by_cases hlt : i < S.length
        · have hlt' : (i : Int) < (S.length : Int) := by omega
          go_wp2_with fail
          obtain ⟨y, hy⟩ : ∃ y, S.getD i 0 = y := ⟨_, rfl⟩
          have HY : Hid (S.getD i 0 = y) := hy
          have hy2 : y < 4294967296 := by rw [← hy]; exact HB.out i
          clear hy
          go_loopg [7, 8, 9] (S.length) (fun gh s7 s8 s9 wx => ∃ j : Nat, s7 = .int .i64 (lssN (S.take j) y : Nat) ∧ s8 = .int .i64 (samN (S.take j) y : Nat) ∧ s9 = .int .i64 (j : Int) ∧ j ≤ S.length ∧ gh = S.length - j ∧ Hid (Q w wx))
          case atStart => exact ⟨0, rfl, rfl, rfl, by omega, rfl, HR.out.2⟩
          case round =>
            obtain ⟨j, rfl, rfl, rfl, hj, rfl, HX⟩ := hrel
            by_cases hjl : j < S.length
            · have hjl' : (j : Int) < (S.length : Int) := by omega
              have cj := HX.out.cell (HI.out j hjl)
              have ci := HX.out.cell (HI.out i hlt)
              rw [HY.out] at ci
              have e1 := lss_snoc (x := y) hjl
              have e2 := sam_snoc (x := y) hjl
              have hl1 : lssN (S.take j) y ≤ S.length := Nat.le_trans List.countP_le_length (by rw [List.length_take]; omega)
              have hl2 : samN (S.take j) y ≤ S.length := Nat.le_trans List.countP_le_length (by rw [List.length_take]; omega)
              obtain ⟨x, hx⟩ : ∃ x, S.getD j 0 = x := ⟨_, rfl⟩
              have hx2 : x < 4294967296 := by rw [← hx]; exact HB.out j
              rw [hx] at cj e1 e2
              obtain ⟨p, hp⟩ : ∃ p, lssN (S.take j) y = p := ⟨_, rfl⟩
              obtain ⟨q, hq⟩ : ∃ q, samN (S.take j) y = q := ⟨_, rfl⟩
              rw [hp] at e1 hl1 ⊢
              rw [hq] at e2 hl2 ⊢
              have CK : Hid (∀ (z : Nat) (w : World), (z = x ∨ z = y) → Calls Tryz.prog 59 #[.int .u32 (z : Int)] w fun e w' => e = .returned (.int .i64 (keyN z : Nat)) ∧ w' = w) := fun z w hz => HK.out z (by rcases hz with rfl | rfl <;> assumption) w
              have q1 := qw_cell cj
              have q2 := qw_cell ci
              have n0 := qw_some wr
              clear hx hp hq
              by_cases h1 : keyN x < keyN y
              · have hxy : ((x : Int) == (y : Int)) = false := by rw [beq_eq_false_iff_ne]; intro e; exact absurd h1 (by rw [show x = y by omega]; omega)
                have h1' : ((keyN x : Nat) : Int) < ((keyN y : Nat) : Int) := by omega
                have HL1 : Hid (lssN (S.take (j + 1)) y = p + 1) := by show _ = _; rw [e1, if_pos h1]
                have HL2 : Hid (samN (S.take (j + 1)) y = q) := by show _ = _; rw [e2, if_neg (fun e => by subst e; omega), Nat.add_zero]
                clear e1 e2
                go_wp2_with fail
                refine wp_region_quiet_Q (by kernel_rfl) (by kernel_rfl) ?_
                repeat (first | go_big_quiet_step (first | (go_at_call 59; exact calls_qs (CK.out _ _ (by first | exact Or.inl rfl | exact Or.inr rfl)))) | quiet_step (first | (go_at_call 59; exact calls_qs (CK.out _ _ (by first | exact Or.inl rfl | exact Or.inr rfl)))))
                refine wpQuiet_nil ?_
                intro w4 hw'
                have hq4 := qw_out hw'
                have HQ4 : Hid (Q w w4) := HX.out.trans hq4
                have c1 := hq4.cell cj
                have c2 := hq4.cell ci
                clear q1 q2 n0 hw' hq4 cj ci
                have q1 := qw_cell c1
                have q2 := qw_cell c2
                have n0 := qw_some w4
                go_wp2_with fail
                refine wp_region_quiet_Q (by kernel_rfl) (by kernel_rfl) ?_
                repeat (first | go_big_quiet_step (fail) | quiet_step (fail))
                refine wpQuiet_nil ?_
                intro w5 hw'
                have HQ5 : Hid (Q w w5) := HQ4.out.trans (qw_out hw')
                clear q1 q2 n0 hw' c1 c2 HQ4
                go_wp2_with fail
                go_roundg (S.length - (j + 1))
                case measure => go_light; omega
                case rel => go_light; exact ⟨j + 1, by rw [HL1.out] <;> simp, by rw [HL2.out] <;> simp, by simp, by omega, rfl, HQ5⟩
              · have h1' : ¬ ((keyN x : Nat) : Int) < ((keyN y : Nat) : Int) := by omega
                by_cases h2 : x = y
                · have hxy : ((x : Int) == (y : Int)) = true := by rw [h2]; simp
                  have HL1 : Hid (lssN (S.take (j + 1)) y = p) := by show _ = _; rw [e1, if_neg h1, Nat.add_zero]
                  have HL2 : Hid (samN (S.take (j + 1)) y = q + 1) := by show _ = _; rw [e2, if_pos h2]
                  clear e1 e2 h2
                  go_wp2_with fail
                  refine wp_region_quiet_Q (by kernel_rfl) (by kernel_rfl) ?_
                  repeat (first | go_big_quiet_step (first | (go_at_call 59; exact calls_qs (CK.out _ _ (by first | exact Or.inl rfl | exact Or.inr rfl)))) | quiet_step (first | (go_at_call 59; exact calls_qs (CK.out _ _ (by first | exact Or.inl rfl | exact Or.inr rfl)))))
                  refine wpQuiet_nil ?_
                  intro w4 hw'
                  have hq4 := qw_out hw'
                  have HQ4 : Hid (Q w w4) := HX.out.trans hq4
                  have c1 := hq4.cell cj
                  have c2 := hq4.cell ci
                  clear q1 q2 n0 hw' hq4 cj ci
                  have q1 := qw_cell c1
                  have q2 := qw_cell c2
                  have n0 := qw_some w4
                  go_wp2_with fail
                  refine wp_region_quiet_Q (by kernel_rfl) (by kernel_rfl) ?_
                  repeat (first | go_big_quiet_step (fail) | quiet_step (fail))
                  refine wpQuiet_nil ?_
                  intro w5 hw'
                  have HQ5 : Hid (Q w w5) := HQ4.out.trans (qw_out hw')
                  clear q1 q2 n0 hw' c1 c2 HQ4
                  go_wp2_with fail
                  go_roundg (S.length - (j + 1))
                  case measure => go_light; omega
                  case rel => go_light; exact ⟨j + 1, by rw [HL1.out] <;> simp, by rw [HL2.out] <;> simp, by simp, by omega, rfl, HQ5⟩
                · have hxy : ((x : Int) == (y : Int)) = false := by rw [beq_eq_false_iff_ne]; omega
                  have HL1 : Hid (lssN (S.take (j + 1)) y = p) := by show _ = _; rw [e1, if_neg h1, Nat.add_zero]
                  have HL2 : Hid (samN (S.take (j + 1)) y = q) := by show _ = _; rw [e2, if_neg h2, Nat.add_zero]
                  clear e1 e2
                  go_wp2_with fail
                  refine wp_region_quiet_Q (by kernel_rfl) (by kernel_rfl) ?_
                  repeat (first | go_big_quiet_step (first | (go_at_call 59; exact calls_qs (CK.out _ _ (by first | exact Or.inl rfl | exact Or.inr rfl)))) | quiet_step (first | (go_at_call 59; exact calls_qs (CK.out _ _ (by first | exact Or.inl rfl | exact Or.inr rfl)))))
                  refine wpQuiet_nil ?_
                  intro w4 hw'
                  have hq4 := qw_out hw'
                  have HQ4 : Hid (Q w w4) := HX.out.trans hq4
                  have c1 := hq4.cell cj
                  have c2 := hq4.cell ci
                  clear q1 q2 n0 hw' hq4 cj ci
                  have q1 := qw_cell c1
                  have q2 := qw_cell c2
                  have n0 := qw_some w4
                  go_wp2_with fail
                  refine wp_region_quiet_Q (by kernel_rfl) (by kernel_rfl) ?_
                  repeat (first | go_big_quiet_step (fail) | quiet_step (fail))
                  refine wpQuiet_nil ?_
                  intro w5 hw'
                  have HQ5 : Hid (Q w w5) := HQ4.out.trans (qw_out hw')
                  clear q1 q2 n0 hw' c1 c2 HQ4
                  go_wp2_with fail
                  go_roundg (S.length - (j + 1))
                  case measure => go_light; omega
                  case rel => go_light; exact ⟨j + 1, by rw [HL1.out] <;> simp, by rw [HL2.out] <;> simp, by simp, by omega, rfl, HQ5⟩
            · obtain rfl : j = S.length := by omega
              have hge : ¬ (S.length : Int) < (S.length : Int) := by omega
              rw [HE.out]
              have hl1 : lssN S y ≤ S.length := List.countP_le_length
              have hl2 : samN S y ≤ S.length := List.countP_le_length
              have HD : Hid (isRk S K i ↔ lssN S y ≤ K ∧ K < lssN S y + samN S y) := by
                show isRk S K i ↔ _
                unfold isRk
                rw [HY.out]
              generalize lssN S y = p at *
              generalize samN S y = q at *
              by_cases h1 : p ≤ K
              · have h1' : (p : Int) ≤ (K : Int) := by omega
                by_cases h2 : K < p + q
                · have h2' : (K : Int) < (p : Int) + (q : Int) := by omega
                  have HV : Hid (rkV S K = y) := by
                    show _ = _
                    rw [← HY.out]
                    exact (isRk_val HM.out hlt hK (HD.out.2 ⟨h1, h2⟩)).symm
                  have ci := HX.out.cell (HI.out i hlt)
                  rw [HY.out] at ci
                  clear HD
                  go_wp2_with fail
                  go_ret2
                  rw [HV.out]
                  exact ⟨rfl, HX.out⟩
                · have h2' : ¬ (K : Int) < (p : Int) + (q : Int) := by omega
                  have HN : Hid ((∀ i', i' < i + 1 → ¬ isRk S K i') ∧ Q w wr) := by
                    refine ⟨fun i' hi' => ?_, HX.out⟩
                    rcases Nat.lt_or_ge i' i with c | c
                    · exact HR.out.1 i' c
                    · obtain rfl : i' = i := by omega
                      exact fun hh => h2 (HD.out.1 hh).2
                  clear HD HR HX
                  go_wp2_with fail
                  go_roundg (S.length - (i + 1))
                  case measure => go_light; omega
                  case rel => go_light; exact ⟨i + 1, by simp, by omega, rfl, HN⟩
              · have h1' : ¬ (p : Int) ≤ (K : Int) := by omega
                have HN : Hid ((∀ i', i' < i + 1 → ¬ isRk S K i') ∧ Q w wr) := by
                  refine ⟨fun i' hi' => ?_, HX.out⟩
                  rcases Nat.lt_or_ge i' i with c | c
                  · exact HR.out.1 i' c
                  · obtain rfl : i' = i := by omega
                    exact fun hh => h1 (HD.out.1 hh).1
                clear HD HR HX
                go_wp2_with fail
                go_roundg (S.length - (i + 1))
                case measure => go_light; omega
                case rel => go_light; exact ⟨i + 1, by simp, by omega, rfl, HN⟩
        · exfalso
          obtain ⟨i', h1, h2⟩ := isRk_some HM.out hK
          exact HR.out.1 i' (by omega) h2
set_option maxHeartbeats 4000000 in
set_option maxRecDepth 100000 in
theorem s16share_any (v : Value) (S : List Nat) (num den : Int) (w : World) (hv : USl w v S) (hb : ∀ i, S.getD i 0 < 4294967296) (hn : S.length ≤ 1000000) (h1 : 1 ≤ S.length) :
    Calls Tryz.prog 22 #[v, .int .i64 num, .int .i64 den] w fun e w' => e = .returned (.tuple #[.int .u32 ((sshV 0 S num den).1 : Nat), .int .i64 (sshV 0 S num den).2]) ∧ Q w w' := by
  obtain ⟨ad, cap, rfl⟩ := hv.form
  have KR : Hid (∀ k, Calls Tryz.prog 21 #[.slice ad S.length cap, .int .i64 k] w fun e w' => e = .returned (.tuple #[.int .u32 ((srkV 0 S k).1 : Nat), .int .i64 (srkV 0 S k).2]) ∧ Q w w') := fun k => s16rank_any _ S k w hv hb hn
  unfold sshV
  rw [if_neg (fun h => h rfl)]
  clear hv hb
  generalize S.length = n at *
  by_cases h0 : den < 1
  · rw [if_pos (Or.inl h0)]
    go_enter Tryz.func22, Tryz.ntmps22
    go_wp2_with fail
    go_ret2
    exact ⟨rfl, Q.refl _⟩
  · by_cases g1 : 1048576 < den
    · rw [if_pos (Or.inr (Or.inl g1))]
      go_enter Tryz.func22, Tryz.ntmps22
      go_wp2_with fail
      go_ret2
      exact ⟨rfl, Q.refl _⟩
    · by_cases h2 : num < 0
      · rw [if_pos (Or.inr (Or.inr (Or.inl h2)))]
        go_enter Tryz.func22, Tryz.ntmps22
        go_wp2_with fail
        go_ret2
        exact ⟨rfl, Q.refl _⟩
      · by_cases h3 : den < num
        · rw [if_pos (Or.inr (Or.inr (Or.inr h3)))]
          go_enter Tryz.func22, Tryz.ntmps22
          go_wp2_with fail
          go_ret2
          exact ⟨rfl, Q.refl _⟩
        · rw [if_neg (by omega)]
          obtain ⟨m, hm⟩ : ∃ m, ((n : Int) - 1) * num = m := ⟨_, rfl⟩
          have hmb : 0 ≤ m ∧ m ≤ 1000000 * 1048576 := by
            rw [← hm]
            refine ⟨Int.mul_nonneg (by omega) (by omega), ?_⟩
            exact Int.le_trans (Int.mul_le_mul_of_nonneg_right (by omega) (by omega)) (Int.mul_le_mul_of_nonneg_left (by omega) (by omega))
          obtain ⟨k, hk⟩ : ∃ k, m / den = k := ⟨_, rfl⟩
          have hkb : 0 ≤ k ∧ k ≤ m := by
            rw [← hk]
            exact ⟨Int.ediv_nonneg hmb.1 (by omega), Int.ediv_le_self _ hmb.1⟩
          have et : Int.tdiv m den = k := by rw [Int.tdiv_eq_ediv_of_nonneg hmb.1]; exact hk
          rw [hm, hk]
          have HR : Hid _ := KR.out k
          generalize (srkV 0 S k).1 = v0 at *
          generalize (srkV 0 S k).2 = v1 at *
          have em : wrap64 (((n : Int) - 1) * num) = m := by rw [hm]; unfold wrap64; omega
          have hd0 : (den == 0) = false := by simp; omega
          clear KR hk
          go_enter Tryz.func22, Tryz.ntmps22
          go_wp2_with fail
          refine Calls.mono HR.out ?_
          rintro e w1 ⟨rfl, q1⟩
          go_wp2_with fail
          go_ret2
          exact ⟨rfl, q1⟩
end Go.Proofs.YtieojgblamkgoaaGreatDoor
/- stat: Level; the document's Class. -/
namespace Go.Proofs.YtieojgblamkgoaaGreatDoor
open Go.RowKit
set_option linter.unusedVariables false
set_option linter.unusedSimpArgs false

/-- What Level tells. -/
def slvE (E : Int) (b : Int) : Int := if E ≠ 0 then E else if bitsB b = true then 0 else 160
structure LvA (w w' : World) (E0 pw ph : Int) (n : Nat) (V : Nat → Nat) (a b : Int) (ad : Option Addr) (m cc : Nat) (E : Int) : Prop where
  q : Q w w'
  e : E = E0
  bad : E0 ≠ 0 → a = 0 ∧ b = 0 ∧ ad = none ∧ m = 0 ∧ cc = 0
  good : E0 = 0 → ∃ g, ad = some ⟨g, 0, none⟩ ∧ a = pw ∧ b = ph ∧ m = n ∧ cc = n ∧ VR w' g n (fun i => .int .u32 (V i : Nat)) ∧ w.heap.size ≤ g ∧ g < w'.heap.size
set_option maxHeartbeats 4000000 in
set_option maxRecDepth 100000 in
theorem slevel_any (pw ph : Int) (ad : Option Addr) (n c : Nat) (S : List Nat) (b : Int) (w : World) (us : USl w (.slice ad n c) S) (hS : S.length = n) (hb : ∀ i, S.getD i 0 < 4294967296) (hn : n ≤ 16384) :
    Calls Tryz.prog 23 #[.agg #[.int .i64 pw, .int .i64 ph, .slice ad n c], .int .i64 b] w fun e w' => ∃ x y ad' m cc E, e = .returned (.tuple #[.agg #[.int .i64 x, .int .i64 y, .slice ad' m cc], .int .i64 E]) ∧ LvA w w' (slvE (chk pw ph n) b) pw ph n (fun i => lvlV b.toNat S (S.getD i 0)) x y ad' m cc E := by
  have K0 := fun w => check_any pw ph ad n c (by omega) w
  obtain ⟨E, hEq⟩ : ∃ E, chk pw ph n = E := ⟨_, rfl⟩
  simp only [hEq] at K0
  have K : Hid _ := K0
  clear K0
  obtain ⟨w1, hw1⟩ : ∃ w1, (w.alloc (.cells #[.int .i64 pw, .int .i64 ph, .slice ad n c] 26)).alloc (.cells #[.int .i64 0, .int .i64 0, .slice none 0 0] 26) = w1 := ⟨_, rfl⟩
  obtain ⟨A, hA⟩ : ∃ A, w.heap.size = A := ⟨_, rfl⟩
  have q1 : Q w w1 := by rw [← hw1]; exact ((Q.refl w).cells _ _).cells _ _
  have z0 : w1.cell? ⟨A, 0, none⟩ = some (.int .i64 pw) := by rw [← hw1, ← hA]; simp [go_sem]
  have z1 : w1.cell? ⟨A, 1, none⟩ = some (.int .i64 ph) := by rw [← hw1, ← hA]; simp [go_sem]
  have z2 : w1.cell? ⟨A, 2, none⟩ = some (.slice ad n c) := by rw [← hw1, ← hA]; simp [go_sem]
  have r0 : w1.cell? ⟨A + 1, 0, none⟩ = some (.int .i64 0) := by rw [← hw1, ← hA]; simp [go_sem]
  have r1 : w1.cell? ⟨A + 1, 1, none⟩ = some (.int .i64 0) := by rw [← hw1, ← hA]; simp [go_sem]
  have r2 : w1.cell? ⟨A + 1, 2, none⟩ = some (.slice none 0 0) := by rw [← hw1, ← hA]; simp [go_sem]
  have rf : ∀ j, w1.frozen? ⟨A + 1, j, none⟩ = false := fun j => by rw [← hw1, ← hA]; simp [go_sem]
  have hA1 : w1.heap.size = A + 2 := by rw [← hw1, ← hA]; simp [go_sem]
  have HQ1 : Hid (Q w w1) := q1
  have HU : Hid (USl w1 (.slice ad n c) S) := us.next q1
  have HB : Hid (∀ i, S.getD i 0 < 4294967296) := hb
  have HLA : Hid (w.heap.size ≤ A + 1) := by show _ ≤ _; omega
  have HZ : Hid (E = 0 → 1 ≤ n) := fun h => by
    obtain ⟨a, b, _, _, hs, he⟩ := chk_zero (hEq.trans h)
    have := hs.pos
    omega
  rw [hEq]
  clear q1 us hb hEq
  by_cases hE : E = 0
  · have hz := HZ.out hE
    subst hE
    have hEb : slvE 0 b = if bitsB b = true then 0 else 160 := by unfold slvE; rw [if_neg (fun h => h rfl)]
    rw [hEb]
    clear HZ hEb
    have KB := isbits_any b
    cases hbb : bitsB b
    · rw [hbb] at KB
      rw [if_neg (by decide)]
      go_enter Tryz.func23, Tryz.ntmps23
      go_wp2_with fail
      clear hw1
      refine Calls.mono (K.out _) ?_
      rintro e w2 ⟨rfl, q2⟩
      have r0 := q2.cell r0
      have r1 := q2.cell r1
      have r2 := q2.cell r2
      have rf : ∀ j, w2.frozen? ⟨A + 1, j, none⟩ = false := fun j => by rw [q2.2]; exact rf j
      go_wp2_with fail
      refine Calls.mono (KB _) ?_
      rintro e w3 ⟨rfl, hw3⟩
      obtain rfl := hw3.symm
      clear hw3
      go_wp2_with fail
      refine bodyPost_ret (v := .tuple #[.agg #[.int .i64 0, .int .i64 0, .slice none 0 0], .int .i64 160]) (by simp [results, Tryz.results23, go_sem, r0, r1, r2]) rfl ⟨_, _, _, _, _, _, rfl, ?_⟩
      exact ⟨(((HQ1.out.trans q2).set HLA.out _).set HLA.out _).set HLA.out _, rfl, fun _ => ⟨rfl, rfl, rfl, rfl, rfl⟩, fun h => by cases h⟩
    · rw [hbb] at KB
      have hbr : 1 ≤ b ∧ b ≤ 12 := by unfold bitsB at hbb; simpa using hbb
      rw [if_pos rfl]
      obtain ⟨B, rfl⟩ : ∃ B : Nat, b = (B : Int) := ⟨b.toNat, by omega⟩
      rw [Int.toNat_natCast]
      subst hS
      obtain ⟨g, o, cap, hv, hcap, hI⟩ := HU.out.some (by omega)
      injection hv with hv1 hv2 hv3
      subst hv1 hv3
      clear hv2
      have KL : Hid (∀ x, Q w1 x → Calls Tryz.prog 60 #[.agg #[.int .i64 pw, .int .i64 ph, .slice (some ⟨g, o, none⟩) S.length c], .int .i64 (B : Int)] x fun e w' => ∃ G, e = .returned (.agg #[.int .i64 pw, .int .i64 ph, .slice (some ⟨G, 0, none⟩) S.length S.length]) ∧ VR w' G S.length (fun i => .int .u32 ((lvlV B S (S.getD i 0) : Nat) : Int)) ∧ x.heap.size ≤ G ∧ Q x w') := fun x q => levelled_any B pw ph g o c S x (by omega) (by omega) (hI.next q) hcap HB.out hz hn
      clear HU HB hI
      go_enter Tryz.func23, Tryz.ntmps23
      go_wp2_with fail
      clear hw1
      refine Calls.mono (K.out _) ?_
      rintro e w2 ⟨rfl, q2⟩
      have z0 := q2.cell z0
      have z1 := q2.cell z1
      have z2 := q2.cell z2
      go_wp2_with fail
      refine Calls.mono (KB _) ?_
      rintro e w3 ⟨rfl, hw3⟩
      obtain rfl := hw3.symm
      clear hw3
      go_wp2_with fail
      refine Calls.mono (KL.out _ q2) ?_
      rintro e w4 ⟨G, rfl, hG, lG, q4⟩
      have q24 := q2.trans q4
      have r0 := q24.cell r0
      have r1 := q24.cell r1
      have r2 := q24.cell r2
      have rf : ∀ j, w4.frozen? ⟨A + 1, j, none⟩ = false := fun j => by rw [q24.2]; exact rf j
      have hsz := q2.1.size
      have HQ4 : Hid (Q w w4) := HQ1.out.trans q24
      clear q2 q4 q24
      go_wp2_with fail
      have hGA : A + 1 ≠ G := by omega
      refine bodyPost_ret (v := .tuple #[.agg #[.int .i64 pw, .int .i64 ph, .slice (some ⟨G, 0, none⟩) S.length S.length], .int .i64 0]) (by simp [results, Tryz.results23, go_sem, r0, r1, r2]) rfl ⟨_, _, _, _, _, _, rfl, ?_⟩
      have hG' := ((hG.other (p := ⟨A + 1, 0, none⟩) hGA (.int .i64 pw)).other (p := ⟨A + 1, 1, none⟩) hGA (.int .i64 ph)).other (p := ⟨A + 1, 2, none⟩) hGA (.slice (some ⟨G, 0, none⟩) S.length S.length)
      exact ⟨((HQ4.out.set HLA.out _).set HLA.out _).set HLA.out _, rfl, fun h => absurd rfl h, fun _ => ⟨G, rfl, rfl, rfl, rfl, rfl, hG', by omega, hG'.lt hz⟩⟩
  · have hEb : slvE E b = E := by unfold slvE; rw [if_pos hE]
    rw [hEb]
    have hne : (E != 0) = true := by simpa using hE
    have HE : Hid (E ≠ 0) := hE
    clear hE HZ hEb
    go_enter Tryz.func23, Tryz.ntmps23
    go_wp2_with fail
    clear hw1
    refine Calls.mono (K.out _) ?_
    rintro e w2 ⟨rfl, q2⟩
    have r0 := q2.cell r0
    have r1 := q2.cell r1
    have r2 := q2.cell r2
    have rf : ∀ j, w2.frozen? ⟨A + 1, j, none⟩ = false := fun j => by rw [q2.2]; exact rf j
    go_wp2_with fail
    refine bodyPost_ret (v := .tuple #[.agg #[.int .i64 0, .int .i64 0, .slice none 0 0], .int .i64 E]) (by simp [results, Tryz.results23, go_sem, r0, r1, r2]) rfl ⟨_, _, _, _, _, _, rfl, ?_⟩
    exact ⟨(((HQ1.out.trans q2).set HLA.out _).set HLA.out _).set HLA.out _, rfl, fun _ => ⟨rfl, rfl, rfl, rfl, rfl⟩, fun h => absurd h HE.out⟩
set_option maxHeartbeats 2000000 in
theorem r16cls_any (b s : Nat) (h1 : 1 ≤ b) (h2 : b ≤ 12) (hs : s < 4294967296) (w : World) : Calls Tryz.prog 62 #[.int .u32 (s : Int), .int .i64 (b : Int)] w fun e w' => e = .returned (.int .i64 (clsN b s : Nat)) ∧ w' = w := by
  have K := r4key_any s hs
  have hl := keyN_lt hs
  unfold clsN
  generalize keyN s = k at *
  have hd : k / 2 ^ (32 - b) ≤ k := Nat.div_le_self _ _
  have hc : ((k : Int) / 2 ^ (32 - b)) = ((k / 2 ^ (32 - b) : Nat) : Int) := by simp
  obtain ⟨q, hq⟩ : ∃ q, k / 2 ^ (32 - b) = q := ⟨_, rfl⟩
  rw [hq] at hd hc ⊢
  have HC : Hid ((k : Int) / 2 ^ (32 - b) = (q : Int)) := hc
  clear hc hq
  go_enter Tryz.func62, Tryz.ntmps62
  go_wp2_with fail
  refine Calls.mono (K _) ?_
  rintro e w1 ⟨rfl, hw⟩
  obtain rfl := hw.symm
  clear hw
  have ew : wrap64 ((32 : Int) - (b : Int)) = ((32 - b : Nat) : Int) := by unfold wrap64; omega
  go_wp2_with fail
  rw [HC.out]
  go_ret
  exact ⟨rfl, rfl⟩
end Go.Proofs.YtieojgblamkgoaaGreatDoor
/- Copies of planes. -/
namespace Go.Proofs.YtieojgblamkgoaaGreatDoor
open Go.RowKit
set_option linter.unusedVariables false
set_option linter.unusedSimpArgs false

theorem uInfoq : ∃ i, Tryz.prog.info? 43 = some i ∧ i.size = 1 ∧ i.bytes = 4 ∧ i.zero = some (.int .u32 0) := info_of (by kernel_rfl) (by kernel_rfl)
theorem run_appopq {P : Program} {A : Act} {o : Oper} {x x' : World} {s u : Operand} {t : TypeId} (ho : o.op = .call { callee := .builtin .append, args := #[s, u], argTypes := #[t, t] }) {v v' r : Value} (hs : A.eval s = v) (hu : A.eval u = v') (hr : (Builtin.append_ #[t, t] o.type #[v, v']).run P x = .ok r x') : (execOp A.eval o).run P x = .ok (.value r) x' := by
  unfold execOp
  simp only [ho, resolve, invoke, builtin, Sem.run_bind, Sem.run_pure, Result.andThen_ok, List.map_toArray, List.map_cons, List.map_nil, hs, hu, hr]
set_option maxHeartbeats 2000000 in
set_option maxRecDepth 100000 in
theorem hcopy_some (w : World) (pw ph : Int) (g o n c : Nat) (S : List Nat) (hS : S.length = n) (hI : UIs w g o S) (h1 : 1 ≤ n) (h2 : n ≤ 1000000) :
    Calls Tryz.prog 16 #[.agg #[.int .i64 pw, .int .i64 ph, .slice (some ⟨g, o, none⟩) n c]] w fun e w' => ∃ v, e = .returned v ∧ ∃ b cap, v = .agg #[.int .i64 pw, .int .i64 ph, .slice (some ⟨b, 0, none⟩) n cap] ∧ n ≤ cap ∧ b < w'.heap.size ∧ Own w w' b S := by
  have HI : Hid (∀ x : World, Q w x → UIs x g o S) := fun x q => hI.next q
  have HN : Hid (S.length = n) := hS
  clear hI hS
  go_enter Tryz.func16, Tryz.ntmps16
  go_wp2_with fail
  have HQ : Hid (Q w ((w.alloc (Obj.cells #[Value.int IntKind.i64 pw, Value.int IntKind.i64 ph, .slice (some ⟨g, o, none⟩) n c] 26)).alloc (Obj.cells #[Value.int IntKind.i64 0, Value.int IntKind.i64 0, Value.slice none 0 0] 26))) := ((Q.refl w).cells _ _).cells _ _
  have c0 : ((w.alloc (Obj.cells #[Value.int IntKind.i64 pw, Value.int IntKind.i64 ph, .slice (some ⟨g, o, none⟩) n c] 26)).alloc (Obj.cells #[Value.int IntKind.i64 0, Value.int IntKind.i64 0, Value.slice none 0 0] 26)).cell? ⟨w.heap.size, 0, none⟩ = some (.int .i64 pw) := by simp [go_sem]
  have c1 : ((w.alloc (Obj.cells #[Value.int IntKind.i64 pw, Value.int IntKind.i64 ph, .slice (some ⟨g, o, none⟩) n c] 26)).alloc (Obj.cells #[Value.int IntKind.i64 0, Value.int IntKind.i64 0, Value.slice none 0 0] 26)).cell? ⟨w.heap.size, 1, none⟩ = some (.int .i64 ph) := by simp [go_sem]
  have c2 : ((w.alloc (Obj.cells #[Value.int IntKind.i64 pw, Value.int IntKind.i64 ph, .slice (some ⟨g, o, none⟩) n c] 26)).alloc (Obj.cells #[Value.int IntKind.i64 0, Value.int IntKind.i64 0, Value.slice none 0 0] 26)).cell? ⟨w.heap.size, 2, none⟩ = some (.slice (some ⟨g, o, none⟩) n c) := by simp [go_sem]
  have d0 : ((w.alloc (Obj.cells #[Value.int IntKind.i64 pw, Value.int IntKind.i64 ph, .slice (some ⟨g, o, none⟩) n c] 26)).alloc (Obj.cells #[Value.int IntKind.i64 0, Value.int IntKind.i64 0, Value.slice none 0 0] 26)).cell? ⟨w.heap.size + 1, 0, none⟩ = some (.int .i64 0) := by simp [go_sem]
  have d1 : ((w.alloc (Obj.cells #[Value.int IntKind.i64 pw, Value.int IntKind.i64 ph, .slice (some ⟨g, o, none⟩) n c] 26)).alloc (Obj.cells #[Value.int IntKind.i64 0, Value.int IntKind.i64 0, Value.slice none 0 0] 26)).cell? ⟨w.heap.size + 1, 1, none⟩ = some (.int .i64 0) := by simp [go_sem]
  have d2 : ((w.alloc (Obj.cells #[Value.int IntKind.i64 pw, Value.int IntKind.i64 ph, .slice (some ⟨g, o, none⟩) n c] 26)).alloc (Obj.cells #[Value.int IntKind.i64 0, Value.int IntKind.i64 0, Value.slice none 0 0] 26)).cell? ⟨w.heap.size + 1, 2, none⟩ = some (.slice none 0 0) := by simp [go_sem]
  have fz : ∀ j, ((w.alloc (Obj.cells #[Value.int IntKind.i64 pw, Value.int IntKind.i64 ph, .slice (some ⟨g, o, none⟩) n c] 26)).alloc (Obj.cells #[Value.int IntKind.i64 0, Value.int IntKind.i64 0, Value.slice none 0 0] 26)).frozen? ⟨w.heap.size + 1, j, none⟩ = false := fun j => by simp [go_sem]
  have hsz : ((w.alloc (Obj.cells #[Value.int IntKind.i64 pw, Value.int IntKind.i64 ph, .slice (some ⟨g, o, none⟩) n c] 26)).alloc (Obj.cells #[Value.int IntKind.i64 0, Value.int IntKind.i64 0, Value.slice none 0 0] 26)).heap.size = w.heap.size + 2 := by simp
  generalize ((w.alloc (Obj.cells #[Value.int IntKind.i64 pw, Value.int IntKind.i64 ph, .slice (some ⟨g, o, none⟩) n c] 26)).alloc (Obj.cells #[Value.int IntKind.i64 0, Value.int IntKind.i64 0, Value.slice none 0 0] 26)) = wz at *
  have n0 := qw_some wz
  have f0 := qw_cell c0
  have f1 := qw_cell c1
  have f2 := qw_cell c2
  refine wp_region_mk [0, 1, 2, 3, 4, 5] [[6, 7, 8]] 3 _ (by kernel_rfl) (by kernel_rfl) rfl (by kernel_rfl) ?_
  simp only [List.filterMap_cons, List.filterMap_nil, List.getElem?_cons_zero, List.getElem?_cons_succ]
  repeat (first | go_big_quiet_step (fail) | quiet_step (fail))
  refine wpQuiet_nil ?_
  intro x hx
  obtain ⟨iu, i1, i2, i3, i4⟩ := uInfoq
  obtain ⟨cap, w7, hr7, hq7, hc1, hc2, hz7, hn7, -, hf7⟩ := run_app_room (P := Tryz.prog) x 24 24 43 iu _ Tryz.underlying24 i1 i4 (by rw [i2]; rfl) (.slice none 0 0) (Or.inl rfl) ⟨g, o, none⟩ n c (S.map fun (s : Nat) => Value.int .u32 (s : Int)) (by rw [List.length_map, HN.out, i2]; omega) (fun j u hu => by
    rw [List.getElem?_map] at hu
    cases hj : S[j]? with
    | none => rw [hj] at hu; cases hu
    | some s =>
      rw [hj] at hu
      have hu := Option.some.inj hu
      have hjl : j < S.length := (List.getElem?_eq_some_iff.1 hj).1
      have := HI.out x (HQ.out.trans hx) j hjl
      rw [List.getD_eq_getElem?_getD, hj] at this
      rw [← hu, show (⟨g, o, none⟩ : Addr).add j = ⟨g, o + j, none⟩ by unfold Addr.add; split <;> simp_all]
      exact this) (by omega) (by omega) (by rw [i3]; omega)
  have hc7 : ∀ i, i < S.length → w7.cell? ⟨x.heap.size, i, none⟩ = some (.int .u32 ((S.getD i 0 : Nat) : Int)) := fun i hi => by
    refine hn7 i _ ?_
    rw [List.getElem?_map, List.getElem?_eq_getElem hi, List.getD_eq_getElem?_getD, List.getElem?_eq_getElem hi]
    rfl
  have hq2 : Q wz w7 := hx.trans hq7
  refine tree_run 6 rfl rfl (v := .slice (some ⟨x.heap.size, 0, none⟩) n cap) (x' := w7) (run_appopq rfl (v := .slice none 0 0) (v' := .slice (some ⟨g, o, none⟩) n c) (by simp [Act.eval, Act.put]) (by simp [Act.eval, Act.put]) hr7) hq2 ?_
  refine tree_run 7 rfl rfl (v := .agg #[.int .i64 pw, .int .i64 ph, .slice (some ⟨x.heap.size, 0, none⟩) n cap]) (x' := w7) (by simp [execOp, go_sem]) hq2 ?_
  have d02 := hq2.cell d0
  have d12 := hq2.cell d1
  have d22 := hq2.cell d2
  have fz2 : ∀ j, w7.frozen? ⟨w.heap.size + 1, j, none⟩ = false := fun j => (hq2.2 _).trans (fz j)
  refine tree_skipF 8 rfl rfl rfl (x' := (((w7.setCell ⟨w.heap.size + 1, 0, none⟩ (.int .i64 pw)).setCell ⟨w.heap.size + 1, 1, none⟩ (.int .i64 ph)).setCell ⟨w.heap.size + 1, 2, none⟩ (.slice (some ⟨x.heap.size, 0, none⟩) n cap))) (by simp [execOp, go_sem, d02, d12, d22, fz2]) ?_
  refine tree_nil ?_
  have HO : Hid (Own w (((w7.setCell ⟨w.heap.size + 1, 0, none⟩ (.int .i64 pw)).setCell ⟨w.heap.size + 1, 1, none⟩ (.int .i64 ph)).setCell ⟨w.heap.size + 1, 2, none⟩ (.slice (some ⟨x.heap.size, 0, none⟩) n cap)) x.heap.size S) := by
    have hlt : w.heap.size + 1 < x.heap.size := by have := hx.1.size; omega
    have hne : ∀ j, (⟨x.heap.size, j, none⟩ : Addr) ≠ ⟨w.heap.size + 1, 0, none⟩ := fun j e => by injection e with e; omega
    refine ⟨(((HQ.out.trans hq2).set (Nat.le_succ _) _).set (Nat.le_succ _) _).set (Nat.le_succ _) _, by omega, fun i hi => ?_, fun j => ?_⟩
    · rw [World.cell?_setCell_other _ _ _ _ (fun e => by injection e with e; omega), World.cell?_setCell_other _ _ _ _ (fun e => by injection e with e; omega), World.cell?_setCell_other _ _ _ _ (fun e => by injection e with e; omega), Nat.zero_add]
      exact hc7 i hi
    · rw [World.frozen?_setCell, World.frozen?_setCell, World.frozen?_setCell]
      exact hf7 j
  have k0 : (((w7.setCell ⟨w.heap.size + 1, 0, none⟩ (.int .i64 pw)).setCell ⟨w.heap.size + 1, 1, none⟩ (.int .i64 ph)).setCell ⟨w.heap.size + 1, 2, none⟩ (.slice (some ⟨x.heap.size, 0, none⟩) n cap)).cell? ⟨w.heap.size + 1, 0, none⟩ = some (.int .i64 pw) := by simp [go_sem, d02, d12, d22]
  have k1 : (((w7.setCell ⟨w.heap.size + 1, 0, none⟩ (.int .i64 pw)).setCell ⟨w.heap.size + 1, 1, none⟩ (.int .i64 ph)).setCell ⟨w.heap.size + 1, 2, none⟩ (.slice (some ⟨x.heap.size, 0, none⟩) n cap)).cell? ⟨w.heap.size + 1, 1, none⟩ = some (.int .i64 ph) := by simp [go_sem, d02, d12, d22]
  have k2 : (((w7.setCell ⟨w.heap.size + 1, 0, none⟩ (.int .i64 pw)).setCell ⟨w.heap.size + 1, 1, none⟩ (.int .i64 ph)).setCell ⟨w.heap.size + 1, 2, none⟩ (.slice (some ⟨x.heap.size, 0, none⟩) n cap)).cell? ⟨w.heap.size + 1, 2, none⟩ = some (.slice (some ⟨x.heap.size, 0, none⟩) n cap) := by simp [go_sem, d02, d12, d22]
  generalize (((w7.setCell ⟨w.heap.size + 1, 0, none⟩ (.int .i64 pw)).setCell ⟨w.heap.size + 1, 1, none⟩ (.int .i64 ph)).setCell ⟨w.heap.size + 1, 2, none⟩ (.slice (some ⟨x.heap.size, 0, none⟩) n cap)) = w5 at *
  clear d02 d12 d22 fz2 hq2 hx c0 c1 c2 d0 d1 d2 fz hr7 hq7
  go_wp2_with fail
  have hb5 : x.heap.size < w5.heap.size := World.block_lt_of_cell? _ _ (HO.out.cells 0 (by rw [HN.out]; omega))
  exact bodyPost_ret (v := .agg #[.int .i64 pw, .int .i64 ph, .slice (some ⟨x.heap.size, 0, none⟩) n cap]) (by simp [results, Tryz.results16, go_sem, k0, k1, k2]) rfl ⟨_, rfl, x.heap.size, cap, rfl, hc1, hb5, HO.out⟩
theorem run_app_none (x : World) (ad : Option Addr) (c : Nat) : ∃ w7, (Builtin.append_ #[24, 24] 24 #[.slice none 0 0, .slice ad 0 c]).run Tryz.prog x = .ok (.slice none 0 0) w7 ∧ Q x w7 := by
  refine ⟨x, ?_, Q.refl x⟩
  cases ad <;> simp [Builtin.append_, go_sem]
set_option maxHeartbeats 2000000 in
set_option maxRecDepth 100000 in
theorem hcopy_none (w : World) (pw ph : Int) (ad : Option Addr) (c : Nat) :
    Calls Tryz.prog 16 #[.agg #[.int .i64 pw, .int .i64 ph, .slice ad 0 c]] w fun e w' => ∃ v, e = .returned v ∧ v = .agg #[.int .i64 pw, .int .i64 ph, .slice none 0 0] ∧ Q w w' := by
  go_enter Tryz.func16, Tryz.ntmps16
  go_wp2_with fail
  have HQ : Hid (Q w ((w.alloc (Obj.cells #[Value.int IntKind.i64 pw, Value.int IntKind.i64 ph, .slice ad 0 c] 26)).alloc (Obj.cells #[Value.int IntKind.i64 0, Value.int IntKind.i64 0, Value.slice none 0 0] 26))) := ((Q.refl w).cells _ _).cells _ _
  have c0 : ((w.alloc (Obj.cells #[Value.int IntKind.i64 pw, Value.int IntKind.i64 ph, .slice ad 0 c] 26)).alloc (Obj.cells #[Value.int IntKind.i64 0, Value.int IntKind.i64 0, Value.slice none 0 0] 26)).cell? ⟨w.heap.size, 0, none⟩ = some (.int .i64 pw) := by simp [go_sem]
  have c1 : ((w.alloc (Obj.cells #[Value.int IntKind.i64 pw, Value.int IntKind.i64 ph, .slice ad 0 c] 26)).alloc (Obj.cells #[Value.int IntKind.i64 0, Value.int IntKind.i64 0, Value.slice none 0 0] 26)).cell? ⟨w.heap.size, 1, none⟩ = some (.int .i64 ph) := by simp [go_sem]
  have c2 : ((w.alloc (Obj.cells #[Value.int IntKind.i64 pw, Value.int IntKind.i64 ph, .slice ad 0 c] 26)).alloc (Obj.cells #[Value.int IntKind.i64 0, Value.int IntKind.i64 0, Value.slice none 0 0] 26)).cell? ⟨w.heap.size, 2, none⟩ = some (.slice ad 0 c) := by simp [go_sem]
  have d0 : ((w.alloc (Obj.cells #[Value.int IntKind.i64 pw, Value.int IntKind.i64 ph, .slice ad 0 c] 26)).alloc (Obj.cells #[Value.int IntKind.i64 0, Value.int IntKind.i64 0, Value.slice none 0 0] 26)).cell? ⟨w.heap.size + 1, 0, none⟩ = some (.int .i64 0) := by simp [go_sem]
  have d1 : ((w.alloc (Obj.cells #[Value.int IntKind.i64 pw, Value.int IntKind.i64 ph, .slice ad 0 c] 26)).alloc (Obj.cells #[Value.int IntKind.i64 0, Value.int IntKind.i64 0, Value.slice none 0 0] 26)).cell? ⟨w.heap.size + 1, 1, none⟩ = some (.int .i64 0) := by simp [go_sem]
  have d2 : ((w.alloc (Obj.cells #[Value.int IntKind.i64 pw, Value.int IntKind.i64 ph, .slice ad 0 c] 26)).alloc (Obj.cells #[Value.int IntKind.i64 0, Value.int IntKind.i64 0, Value.slice none 0 0] 26)).cell? ⟨w.heap.size + 1, 2, none⟩ = some (.slice none 0 0) := by simp [go_sem]
  have fz : ∀ j, ((w.alloc (Obj.cells #[Value.int IntKind.i64 pw, Value.int IntKind.i64 ph, .slice ad 0 c] 26)).alloc (Obj.cells #[Value.int IntKind.i64 0, Value.int IntKind.i64 0, Value.slice none 0 0] 26)).frozen? ⟨w.heap.size + 1, j, none⟩ = false := fun j => by simp [go_sem]
  have hsz : ((w.alloc (Obj.cells #[Value.int IntKind.i64 pw, Value.int IntKind.i64 ph, .slice ad 0 c] 26)).alloc (Obj.cells #[Value.int IntKind.i64 0, Value.int IntKind.i64 0, Value.slice none 0 0] 26)).heap.size = w.heap.size + 2 := by simp
  generalize ((w.alloc (Obj.cells #[Value.int IntKind.i64 pw, Value.int IntKind.i64 ph, .slice ad 0 c] 26)).alloc (Obj.cells #[Value.int IntKind.i64 0, Value.int IntKind.i64 0, Value.slice none 0 0] 26)) = wz at *
  have n0 := qw_some wz
  have f0 := qw_cell c0
  have f1 := qw_cell c1
  have f2 := qw_cell c2
  refine wp_region_mk [0, 1, 2, 3, 4, 5] [[6, 7, 8]] 3 _ (by kernel_rfl) (by kernel_rfl) rfl (by kernel_rfl) ?_
  simp only [List.filterMap_cons, List.filterMap_nil, List.getElem?_cons_zero, List.getElem?_cons_succ]
  repeat (first | go_big_quiet_step (fail) | quiet_step (fail))
  refine wpQuiet_nil ?_
  intro x hx
  obtain ⟨iu, i1, i2, i3, i4⟩ := uInfoq
  obtain ⟨w7, hr7, hq7⟩ : ∃ w7, (Builtin.append_ #[24, 24] 24 #[.slice none 0 0, .slice ad 0 c]).run Tryz.prog x = .ok (.slice none 0 0) w7 ∧ Q x w7 := run_app_none x ad c
  have hq2 : Q wz w7 := hx.trans hq7
  refine tree_run 6 rfl rfl (v := .slice none 0 0) (x' := w7) (run_appopq rfl (v := .slice none 0 0) (v' := .slice ad 0 c) (by simp [Act.eval, Act.put]) (by simp [Act.eval, Act.put]) hr7) hq2 ?_
  refine tree_run 7 rfl rfl (v := .agg #[.int .i64 pw, .int .i64 ph, .slice none 0 0]) (x' := w7) (by simp [execOp, go_sem]) hq2 ?_
  have d02 := hq2.cell d0
  have d12 := hq2.cell d1
  have d22 := hq2.cell d2
  have fz2 : ∀ j, w7.frozen? ⟨w.heap.size + 1, j, none⟩ = false := fun j => (hq2.2 _).trans (fz j)
  refine tree_skipF 8 rfl rfl rfl (x' := (((w7.setCell ⟨w.heap.size + 1, 0, none⟩ (.int .i64 pw)).setCell ⟨w.heap.size + 1, 1, none⟩ (.int .i64 ph)).setCell ⟨w.heap.size + 1, 2, none⟩ (.slice none 0 0))) (by simp [execOp, go_sem, d02, d12, d22, fz2]) ?_
  refine tree_nil ?_
  have HO : Hid (Q w (((w7.setCell ⟨w.heap.size + 1, 0, none⟩ (.int .i64 pw)).setCell ⟨w.heap.size + 1, 1, none⟩ (.int .i64 ph)).setCell ⟨w.heap.size + 1, 2, none⟩ (.slice none 0 0))) := by
    exact (((HQ.out.trans hq2).set (Nat.le_succ _) _).set (Nat.le_succ _) _).set (Nat.le_succ _) _
  have k0 : (((w7.setCell ⟨w.heap.size + 1, 0, none⟩ (.int .i64 pw)).setCell ⟨w.heap.size + 1, 1, none⟩ (.int .i64 ph)).setCell ⟨w.heap.size + 1, 2, none⟩ (.slice none 0 0)).cell? ⟨w.heap.size + 1, 0, none⟩ = some (.int .i64 pw) := by simp [go_sem, d02, d12, d22]
  have k1 : (((w7.setCell ⟨w.heap.size + 1, 0, none⟩ (.int .i64 pw)).setCell ⟨w.heap.size + 1, 1, none⟩ (.int .i64 ph)).setCell ⟨w.heap.size + 1, 2, none⟩ (.slice none 0 0)).cell? ⟨w.heap.size + 1, 1, none⟩ = some (.int .i64 ph) := by simp [go_sem, d02, d12, d22]
  have k2 : (((w7.setCell ⟨w.heap.size + 1, 0, none⟩ (.int .i64 pw)).setCell ⟨w.heap.size + 1, 1, none⟩ (.int .i64 ph)).setCell ⟨w.heap.size + 1, 2, none⟩ (.slice none 0 0)).cell? ⟨w.heap.size + 1, 2, none⟩ = some (.slice none 0 0) := by simp [go_sem, d02, d12, d22]
  generalize (((w7.setCell ⟨w.heap.size + 1, 0, none⟩ (.int .i64 pw)).setCell ⟨w.heap.size + 1, 1, none⟩ (.int .i64 ph)).setCell ⟨w.heap.size + 1, 2, none⟩ (.slice none 0 0)) = w5 at *
  clear d02 d12 d22 fz2 hq2 hx c0 c1 c2 d0 d1 d2 fz hr7 hq7
  go_wp2_with fail
  exact bodyPost_ret (v := .agg #[.int .i64 pw, .int .i64 ph, .slice none 0 0]) (by simp [results, Tryz.results16, go_sem, k0, k1, k2]) rfl ⟨_, rfl, rfl, HO.out⟩
end Go.Proofs.YtieojgblamkgoaaGreatDoor
/- Lists of samples that are the same. -/
namespace Go.Proofs.YtieojgblamkgoaaGreatDoor
open Go.RowKit
set_option linter.unusedVariables false
set_option linter.unusedSimpArgs false

set_option maxHeartbeats 4000000 in
set_option maxRecDepth 100000 in
theorem words_eq (v v' : Value) (xs : List Nat) (w : World) (h : USl w v xs) (h' : USl w v' xs) (hn : xs.length ≤ 9223372036854775807) :
    Calls Tryz.prog 26 #[v, v'] w fun e w' => e = .returned (.bool true) ∧ Q w w' := by
  obtain ⟨a, cap, ev⟩ := h.form
  obtain ⟨a', cap', ev'⟩ := h'.form
  subst ev ev'
  have HS : Hid (USl w (.slice a xs.length cap) xs) := h
  have HT : Hid (USl w (.slice a' xs.length cap') xs) := h'
  obtain ⟨n, en⟩ : ∃ n, xs.length = n := ⟨_, rfl⟩
  have HN : Hid (xs.length = n) := en
  rw [en] at HS HT hn ⊢
  have hnn : ((n : Int) == (n : Int)) = true := by simp
  clear h h' en
  go_enter Tryz.func26, Tryz.ntmps26
  go_wp2_with fail
  go_loopg [5] n (fun m s5 wx => ∃ i : Nat, s5 = .int .i64 i ∧ i + m = n ∧ Hid (Q w wx))
  case atStart => exact ⟨0, rfl, by omega, Q.refl w⟩
  case round =>
    obtain ⟨i, rfl, him, HQ⟩ := hrel
    by_cases hi : i < n
    · have hi0 : (0 : Int) ≤ (i : Int) := by omega
      have hi1 : (i : Int) < (n : Int) := by omega
      obtain ⟨g, o, c, e1, e2, e3⟩ := HS.out.some (by rw [HN.out]; omega)
      obtain ⟨g', o', c', f1, f2, f3⟩ := HT.out.some (by rw [HN.out]; omega)
      injection e1 with e1 hh1 hh2
      clear hh1 hh2
      injection f1 with f1 hh1 hh2
      clear hh1 hh2
      subst e1 f1
      have c1 := HQ.out.cell (e3 i (by rw [HN.out]; exact hi))
      have c2 := HQ.out.cell (f3 i (by rw [HN.out]; exact hi))
      obtain ⟨z, hz⟩ : ∃ z, xs.getD i 0 = z := ⟨_, rfl⟩
      rw [hz] at c1 c2
      have hzz : ((z : Int) == (z : Int)) = true := by simp
      have n0 := qw_some wr
      have d1 := qw_cell c1
      have d2 := qw_cell c2
      clear hz e2 e3 f2 f3
      go_wp2_with fail
      refine wp_region_quiet_Q (by kernel_rfl) (by kernel_rfl) ?_
      repeat (first | go_big_quiet_step (fail) | quiet_step (fail))
      refine wpQuiet_nil ?_
      intro w4 hw'
      have hq4 := qw_out hw'
      have HQ4 : Hid (Q w w4) := HQ.out.trans hq4
      clear hw' n0 d1 d2
      go_wp2_with fail
      go_roundg (n - (i + 1))
      case measure => go_light; omega
      case rel => go_light; exact ⟨i + 1, by go_num, by omega, HQ4⟩
    · have hie : i = n := by omega
      go_wp2_with fail
      go_ret
      exact ⟨rfl, HQ.out⟩
end Go.Proofs.YtieojgblamkgoaaGreatDoor
/- Planes that are the same. -/
namespace Go.Proofs.YtieojgblamkgoaaGreatDoor
open Go.RowKit
set_option linter.unusedVariables false
set_option linter.unusedSimpArgs false

set_option maxHeartbeats 2000000 in
set_option maxRecDepth 100000 in
theorem hplanes_yes (a b : Int) (p q : Option Addr) (n c d : Nat) (S : List Nat) (w : World) (h : USl w (.slice p n c) S) (h' : USl w (.slice q n d) S) (hn : S.length ≤ 9223372036854775807) :
    Calls Tryz.prog 19 #[.agg #[.int .i64 a, .int .i64 b, .slice p n c], .agg #[.int .i64 a, .int .i64 b, .slice q n d]] w fun e w' => e = .returned (.bool true) ∧ Q w w' := by
  have H1 : Hid (USl w (.slice p n c) S) := h
  have H2 : Hid (USl w (.slice q n d) S) := h'
  clear h h'
  have qa : Hid (∀ a b c d, Q w ((w.alloc (.cells a b)).alloc (.cells c d))) := fun a b c d => ((Q.refl w).cells _ _).cells _ _
  go_enter Tryz.func19, Tryz.ntmps19
  go_wp2_with fail
  refine (words_eq _ _ S _ (H1.out.next (qa.out _ _ _ _)) (H2.out.next (qa.out _ _ _ _)) hn).mono ?_
  rintro e w1 ⟨rfl, q1⟩
  go_wp2_with fail
  go_ret
  exact ⟨rfl, (qa.out _ _ _ _).trans q1⟩
end Go.Proofs.YtieojgblamkgoaaGreatDoor
/- The statements' helpers: sizes, planes that may be. (Out of BlL.) -/
namespace Go.Proofs.YtieojgblamkgoaaGreatDoor
open Go.RowKit
set_option linter.unusedVariables false
set_option linter.unusedSimpArgs false

set_option maxHeartbeats 2000000 in
set_option maxRecDepth 100000 in
theorem hsize_b (W H : Int) (w : World) : Calls Tryz.prog 58 #[.int .i64 W, .int .i64 H] w fun e w' => e = .returned (.bool (sizeB W H)) ∧ w' = w := by
  have E : Hid (sizeB W H = true ↔ SizeB W H) := sizeB_true
  have EF : Hid (¬ SizeB W H → sizeB W H = false) := fun h => by
    cases g : sizeB W H
    · rfl
    · exact absurd (sizeB_true.1 g) h
  generalize sizeB W H = b at *
  rcases Int.lt_or_le W 1 with h0 | h0
  · obtain rfl : b = false := EF.out (fun c => by unfold SizeB at c; omega)
    clear E EF
    go_enter Tryz.func58, Tryz.ntmps58
    go_wp2_with fail
    exact bodyPost_ret (v := .bool false) (by simp [results, Tryz.results58, go_sem] <;> omega) rfl ⟨rfl, rfl⟩
  rcases Int.lt_or_le H 1 with h1 | h1
  · obtain rfl : b = false := EF.out (fun c => by unfold SizeB at c; omega)
    clear E EF
    go_enter Tryz.func58, Tryz.ntmps58
    go_wp2_with fail
    exact bodyPost_ret (v := .bool false) (by simp [results, Tryz.results58, go_sem] <;> omega) rfl ⟨rfl, rfl⟩
  rcases Int.lt_or_le 1024 W with h2 | h2
  · obtain rfl : b = false := EF.out (fun c => by unfold SizeB at c; omega)
    clear E EF
    go_enter Tryz.func58, Tryz.ntmps58
    go_wp2_with fail
    exact bodyPost_ret (v := .bool false) (by simp [results, Tryz.results58, go_sem] <;> omega) rfl ⟨rfl, rfl⟩
  rcases Int.lt_or_le 1024 H with h3 | h3
  · obtain rfl : b = false := EF.out (fun c => by unfold SizeB at c; omega)
    clear E EF
    go_enter Tryz.func58, Tryz.ntmps58
    go_wp2_with fail
    exact bodyPost_ret (v := .bool false) (by simp [results, Tryz.results58, go_sem] <;> omega) rfl ⟨rfl, rfl⟩
  have hb1 : 0 ≤ W * H := Int.mul_nonneg (by omega) (by omega)
  have hb2 : W * H ≤ 1048576 := Int.le_trans (Int.mul_le_mul h2 h3 (by omega) (by omega)) (by decide)
  rcases Int.lt_or_le 65536 (W * H) with h4 | h4
  · obtain rfl : b = false := EF.out (fun c => by unfold SizeB at c; omega)
    clear E EF
    go_enter Tryz.func58, Tryz.ntmps58
    go_wp2_with fail
    exact bodyPost_ret (v := .bool false) (by simp [results, Tryz.results58, go_sem] <;> omega) rfl ⟨rfl, rfl⟩
  · obtain rfl : b = true := E.out.2 (by unfold SizeB; omega)
    clear E EF
    go_enter Tryz.func58, Tryz.ntmps58
    go_wp2_with fail
    exact bodyPost_ret (v := .bool true) (by simp [results, Tryz.results58, go_sem] <;> omega) rfl ⟨rfl, rfl⟩
set_option maxHeartbeats 2000000 in
set_option maxRecDepth 100000 in
theorem may_any (W H : Int) (ad : Option Addr) (n c : Nat) (w : World) : Calls Tryz.prog 20 #[.agg #[.int .i64 W, .int .i64 H, .slice ad n c]] w fun e w' => e = .returned (.int .i64 (chk W H n)) ∧ Q w w' := by
  obtain ⟨w1, hw1⟩ : ∃ w1, w.alloc (.cells #[.int .i64 W, .int .i64 H, .slice ad n c] 26) = w1 := ⟨_, rfl⟩
  have HQ : Hid (Q w w1) := by show Q w w1; rw [← hw1]; exact (Q.refl w).cells _ _
  have k0 : w1.cell? ⟨w.heap.size, 0, none⟩ = some (.int .i64 W) := by rw [← hw1]; simp [go_sem]
  have k1 : w1.cell? ⟨w.heap.size, 1, none⟩ = some (.int .i64 H) := by rw [← hw1]; simp [go_sem]
  have k2 : w1.cell? ⟨w.heap.size, 2, none⟩ = some (.slice ad n c) := by rw [← hw1]; simp [go_sem]
  have C := hsize_b W H w1
  cases hs : sizeB W H
  · rw [hs] at C
    rw [chk_bad hs]
    go_enter Tryz.func20, Tryz.ntmps20
    go_wp2_with fail
    refine C.mono ?_
    rintro e w2 ⟨rfl, hw2⟩
    obtain rfl := hw2.symm
    clear hw2 C
    go_wp2_with fail
    go_ret
    exact ⟨rfl, HQ.out⟩
  · rw [hs] at C
    have hb := sizeB_true.1 hs
    have hb1 : 0 ≤ W * H := Int.mul_nonneg (by unfold SizeB at hb; omega) (by unfold SizeB at hb; omega)
    have hb2 : W * H ≤ 65536 := by unfold SizeB at hb; omega
    by_cases hn : (n : Int) = W * H
    · rw [chk_ok hs hn]
      have e1 : ((n : Int) != W * H) = false := by simpa using hn
      clear hn hb hs
      go_enter Tryz.func20, Tryz.ntmps20
      go_wp2_with fail
      refine C.mono ?_
      rintro e w2 ⟨rfl, hw2⟩
      obtain rfl := hw2.symm
      clear hw2 C
      go_wp2_with fail
      go_ret
      exact ⟨rfl, HQ.out⟩
    · rw [chk_count hs hn]
      have e1 : ((n : Int) != W * H) = true := by simpa using hn
      clear hn hb hs
      go_enter Tryz.func20, Tryz.ntmps20
      go_wp2_with fail
      refine C.mono ?_
      rintro e w2 ⟨rfl, hw2⟩
      obtain rfl := hw2.symm
      clear hw2 C
      go_wp2_with fail
      go_ret
      exact ⟨rfl, HQ.out⟩
end Go.Proofs.YtieojgblamkgoaaGreatDoor
/- The statement StatRanks: its walk. -/
namespace Go.Proofs.YtieojgblamkgoaaGreatDoor
open Go.RowKit
set_option linter.unusedVariables false
set_option linter.unusedSimpArgs false

/-- A copy, empty or not. -/
theorem hcopy_al2 (w : World) (pw ph : Int) (ad : Option Addr) (n c : Nat) (S : List Nat) (hS : S.length = n) (hU : USl w (.slice ad n c) S) (h2 : n ≤ 1000000) :
    Calls Tryz.prog 16 #[.agg #[.int .i64 pw, .int .i64 ph, .slice ad n c]] w fun e w' => ∃ ad' c', e = .returned (.agg #[.int .i64 pw, .int .i64 ph, .slice ad' n c']) ∧ USl w' (.slice ad' n c') S ∧ Q w w' := by
  rcases Nat.lt_or_ge 0 n with h1 | h1
  · obtain ⟨g, o, cap, hv, hc, hI⟩ := hU.some (by omega)
    injection hv with hv1 _ _
    subst hv1
    refine (hcopy_some w pw ph g o n c S hS hI h1 h2).mono ?_
    rintro e w' ⟨v, rfl, b, cap', rfl, hc', hb, hO⟩
    refine ⟨_, _, rfl, ?_, hO.q⟩
    have := hO.cells.usl (cap := cap') (by omega)
    rw [hS] at this
    exact this
  · obtain rfl : n = 0 := by omega
    obtain rfl : S = [] := List.length_eq_zero_iff.1 hS
    refine (hcopy_none w pw ph ad c).mono ?_
    rintro e w' ⟨v, rfl, rfl, q⟩
    exact ⟨_, _, rfl, Or.inr ⟨_, _, rfl, rfl⟩, q⟩
theorem srk_bad {E : Int} (h : E ≠ 0) (S : List Nat) (k : Int) : srkV E S k = (0, E) := if_pos h
theorem ssh_bad {E : Int} (h : E ≠ 0) (S : List Nat) (a b : Int) : sshV E S a b = (0, E) := if_pos h
set_option maxHeartbeats 8000000 in
set_option maxRecDepth 100000 in
theorem sranks_walk (W0 : World) (pw ph k num den : Int) (sv : Value) (S : List Nat) (us : USl W0 sv S) (hSb : ∀ i, S.getD i 0 < 4294967296) (hml : S.length ≤ 9223372036854775807) (hT : Tab W0) :
    Calls Tryz.prog 4 #[.agg #[.int .i64 pw, .int .i64 ph, sv], .int .i64 k, .int .i64 num, .int .i64 den] W0 fun e w' => e = .returned (.bool true) ∧ Qb W0 w' := by
  obtain ⟨ad, c, rfl⟩ := us.form
  obtain ⟨n, hn⟩ : ∃ n, S.length = n := ⟨_, rfl⟩
  rw [hn] at us hml ⊢
  obtain ⟨w1, hw1⟩ : ∃ w1, W0.alloc (.cells #[.int .i64 pw, .int .i64 ph, .slice ad n c] 26) = w1 := ⟨_, rfl⟩
  have q1 : Q W0 w1 := by rw [← hw1]; exact (Q.refl W0).cells _ _
  have p0 : w1.cell? ⟨W0.heap.size, 0, none⟩ = some (.int .i64 pw) := by rw [← hw1]; simp [go_sem]
  have p1 : w1.cell? ⟨W0.heap.size, 1, none⟩ = some (.int .i64 ph) := by rw [← hw1]; simp [go_sem]
  have p2 : w1.cell? ⟨W0.heap.size, 2, none⟩ = some (.slice ad n c) := by rw [← hw1]; simp [go_sem]
  have HK : Hid (Calls Tryz.prog 9 #[] w1 fun e w' => e = .returned (.bool true) ∧ Qb w1 w') := known16_any w1 (q1.tab hT)
  have HCy : Hid _ := fun x u h2 => hcopy_al2 x pw ph ad n c S hn u h2
  have HPl : Hid _ := fun ad' c' x u u' => hplanes_yes pw ph ad' ad n c' c S x u u' (by omega)
  obtain ⟨E, hE⟩ : ∃ E, chk pw ph n = E := ⟨_, rfl⟩
  have mr0 := fun ad' c' x u => srank_any pw ph ad' n c' S k x u hn hSb hml
  have ms0 := fun ad' c' x u => sshare_any pw ph ad' n c' S num den x u hn hSb hml
  have mm0 := fun x => may_any pw ph ad n c x
  simp only [hE] at mr0 ms0 mm0
  have HMr : Hid _ := mr0
  have HMs : Hid _ := ms0
  have HMm : Hid _ := mm0
  clear mr0 ms0 mm0
  have HZ : Hid (E = 0 → 1 ≤ S.length) := fun h => by
    obtain ⟨a, b, _, _, hs, he⟩ := chk_zero (hE.trans h)
    have := hs.pos
    omega
  have HDr : Hid _ := fun v x u h2 => s16rank_any v S k x u hSb h2
  have HDs : Hid _ := fun v x u h2 h1 => s16share_any v S num den x u hSb h2 h1
  have HU : Hid (USl w1 (.slice ad n c) S) := us.next q1
  have HQ1 : Hid (Qb W0 w1) := q1.qb
  have HN : Hid (S.length = n) := hn
  clear us q1 hE hT hSb hml hn
  obtain ⟨bp, hbp⟩ : ∃ bp, W0.heap.size = bp := ⟨_, rfl⟩
  rw [hbp] at p0 p1 p2
  go_enter Tryz.func4, Tryz.ntmps4
  go_wp2_with fail
  clear hw1 hbp
  refine Calls.mono HK.out ?_
  rintro e w2 ⟨rfl, q2⟩
  have p0 := q2.cell p0
  have p1 := q2.cell p1
  have p2 := q2.cell p2
  have HQ2 : Hid (Qb W0 w2) := HQ1.out.trans q2
  have HU2 : Hid (USl w2 (.slice ad n c) S) := HU.out.nextB q2
  clear q2 HQ1 HU HK
  by_cases h6 : (600 : Int) < (n : Int)
  · go_wp2_with fail
    go_ret
    exact ⟨rfl, HQ2.out⟩
  have hn6 : n ≤ 600 := by omega
  go_wp2_with fail
  refine Calls.mono (HCy.out _ HU2.out (by omega)) ?_
  rintro e w3 ⟨ad3, c3, rfl, u3, q3⟩
  obtain ⟨w4, hw4⟩ : ∃ w4, w3.alloc (.cells #[.int .i64 pw, .int .i64 ph, .slice ad3 n c3] 26) = w4 := ⟨_, rfl⟩
  have q34 : Q w3 w4 := by rw [← hw4]; exact (Q.refl w3).cells _ _
  have q24 : Q w2 w4 := q3.trans q34
  have i0 : w4.cell? ⟨w3.heap.size, 0, none⟩ = some (.int .i64 pw) := by rw [← hw4]; simp [go_sem]
  have i1 : w4.cell? ⟨w3.heap.size, 1, none⟩ = some (.int .i64 ph) := by rw [← hw4]; simp [go_sem]
  have i2 : w4.cell? ⟨w3.heap.size, 2, none⟩ = some (.slice ad3 n c3) := by rw [← hw4]; simp [go_sem]
  have HI4 : Hid (USl w4 (.slice ad3 n c3) S) := u3.next q34
  have HU4 : Hid (USl w4 (.slice ad n c) S) := HU2.out.next q24
  have HQ4 : Hid (Qb W0 w4) := HQ2.out.trans q24.qb
  have p0 := q24.cell p0
  have p1 := q24.cell p1
  have p2 := q24.cell p2
  clear q3 q34 q24 u3 HU2 HQ2
  go_wp2_with fail
  clear hw4
  generalize w3.heap.size = bi at *
  refine Calls.mono (HMr.out _ _ _ HI4.out) ?_
  rintro e w5 ⟨rfl, q5⟩
  have i0 := q5.cell i0
  have i1 := q5.cell i1
  have i2 := q5.cell i2
  have p0 := q5.cell p0
  have p1 := q5.cell p1
  have p2 := q5.cell p2
  have HI5 : Hid (USl w5 (.slice ad3 n c3) S) := HI4.out.nextB q5
  have HU5 : Hid (USl w5 (.slice ad n c) S) := HU4.out.nextB q5
  have HQ5 : Hid (Qb W0 w5) := HQ4.out.trans q5
  clear q5 HI4 HU4 HQ4
  go_wp2_with fail
  refine Calls.mono (HMs.out _ _ _ HI5.out) ?_
  rintro e w6 ⟨rfl, q6⟩
  have i0 := q6.cell i0
  have i1 := q6.cell i1
  have i2 := q6.cell i2
  have p0 := q6.cell p0
  have p1 := q6.cell p1
  have p2 := q6.cell p2
  have HI6 : Hid (USl w6 (.slice ad3 n c3) S) := HI5.out.nextB q6
  have HU6 : Hid (USl w6 (.slice ad n c) S) := HU5.out.nextB q6
  have HQ6 : Hid (Qb W0 w6) := HQ5.out.trans q6
  clear q6 HI5 HU5 HQ5
  go_wp2_with fail
  refine Calls.mono (HPl.out _ _ _ HI6.out HU6.out) ?_
  rintro e w7 ⟨rfl, q7⟩
  have p0 := q7.cell p0
  have p1 := q7.cell p1
  have p2 := q7.cell p2
  have HU7 : Hid (USl w7 (.slice ad n c) S) := HU6.out.next q7
  have HQ7 : Hid (Qb W0 w7) := HQ6.out.trans q7.qb
  clear q7 HI6 HU6 HQ6 i0 i1 i2
  go_wp2_with fail
  refine Calls.mono (HMm.out _) ?_
  rintro e w8 ⟨rfl, q8⟩
  have p0 := q8.cell p0
  have p1 := q8.cell p1
  have p2 := q8.cell p2
  have HU8 : Hid (USl w8 (.slice ad n c) S) := HU7.out.next q8
  have HQ8 : Hid (Qb W0 w8) := HQ7.out.trans q8.qb
  clear q8 HU7 HQ7
  by_cases hE : E = 0
  · subst hE
    have HZ1 : Hid (1 ≤ S.length) := HZ.out rfl
    have HDr1 : Hid _ := HDr.out (.slice ad n c) w8 HU8.out (by have := HN.out; omega)
    have HDs1 : Hid (∀ x, Q w8 x → Calls Tryz.prog 22 #[.slice ad n c, .int .i64 num, .int .i64 den] x fun e w' => e = .returned (.tuple #[.int .u32 ((sshV 0 S num den).1 : Nat), .int .i64 (sshV 0 S num den).2]) ∧ Q x w') := fun x q => HDs.out (.slice ad n c) x (HU8.out.next q) (by have := HN.out; omega) HZ1.out
    generalize (srkV 0 S k).1 = v1 at *
    generalize (srkV 0 S k).2 = v2 at *
    generalize (sshV 0 S num den).1 = v3 at *
    generalize (sshV 0 S num den).2 = v4 at *
    clear HMr HMs HMm HDr HDs HZ
    go_wp2_with fail
    refine Calls.mono HDr1.out ?_
    rintro e w9 ⟨rfl, q9⟩
    have p0 := q9.cell p0
    have p1 := q9.cell p1
    have p2 := q9.cell p2
    go_wp2_with fail
    refine Calls.mono (HDs1.out _ q9) ?_
    rintro e w10 ⟨rfl, q10⟩
    have HQ10 : Hid (Qb W0 w10) := HQ8.out.trans (q9.trans q10).qb
    clear q9 q10 HDr1 HDs1 HQ8
    go_wp2_with fail
    go_ret
    exact ⟨by simp, HQ10.out⟩
  · rw [srk_bad hE, ssh_bad hE] at *
    have hne : (E != 0) = true := by simpa using hE
    clear HDr HDs HZ hE
    go_wp2_with fail
    refine Calls.mono (HMm.out _) ?_
    rintro e w9 ⟨rfl, q9⟩
    have HQ9 : Hid (Qb W0 w9) := HQ8.out.trans q9.qb
    clear q9 HQ8
    go_wp2_with fail
    go_ret
    exact ⟨by simp, HQ9.out⟩
end Go.Proofs.YtieojgblamkgoaaGreatDoor
