/- The document's curves: whether knots may be. -/
import Derived.Test.YtmfniimelibhfaaG5d947794
namespace Go.Proofs.Ytmfniimelibhfaa
open Go.RowKit
set_option linter.unusedVariables false

set_option maxHeartbeats 4000000 in
theorem rcheck_any (g o cap : Nat) (l : List (Nat × Nat)) (h2 : 2 ≤ l.length) (hl : l.length ≤ 64) (hlt : ∀ i, kx l i < 4294967296 ∧ ky l i < 4294967296) (w : World) (hk : KIs w g o l) :
    Calls Try.prog 22 #[.slice (some ⟨g, o, none⟩) l.length cap] w fun e w' => Q w w' ∧ ∃ r, e = .returned (.int .i64 r) ∧ (Bad l r ∨ (Good l ∧ r = 0)) := by
  have b1 : ¬ (l.length : Int) < 2 := by omega
  have b3 : decide ((l.length : Int) < 2) = false := decide_eq_false b1
  have b4 : ¬ (64 : Int) < (l.length : Int) := by omega
  have b5 : decide ((64 : Int) < (l.length : Int)) = false := decide_eq_false b4
  have HK : Hid (KIs w g o l) := hk
  clear hk
  go_enter Try.func22, Try.ntmps22
  go_wp2_with fail
  go_loopg [3] l.length (fun m s3 wr => ∃ k : Nat, s3 = .int .i64 k ∧ k + m = l.length ∧ Hid (finTo l k) ∧ wr = w)
  case atStart => exact ⟨0, rfl, by omega, (fun i h => absurd h (Nat.not_lt_zero _) : finTo l 0), rfl⟩
  case round =>
    obtain ⟨k, rfl, hm, HF, rfl⟩ := hrel
    by_cases hlt' : k < l.length
    · obtain ⟨c1, c2⟩ := HK.out k hlt'
      have hi0 : (0 : Int) ≤ (k : Int) := by omega
      have hi1 : (k : Int) < (l.length : Int) := by omega
      go_wp2_with fail
      refine (rfinite_any (kx l k) (hlt k).1 _).mono ?_
      rintro e w1 ⟨rfl, rfl⟩
      cases f1 : finN (kx l k)
      · have F1 : Hid (finN (kx l k) = false) := f1
        clear f1
        go_wp2_with fail
        go_ret
        exact ⟨Q.refl _, 41, rfl, Or.inl (Or.inr (Or.inl ⟨h2, hl, fun h => (by have := (h k hlt').1; rw [F1.out] at this; cases this), rfl⟩))⟩
      · have F1 : Hid (finN (kx l k) = true) := f1
        clear f1
        go_wp2_with fail
        refine (rfinite_any (ky l k) (hlt k).2 _).mono ?_
        rintro e w1 ⟨rfl, rfl⟩
        cases f2 : finN (ky l k)
        · have F2 : Hid (finN (ky l k) = false) := f2
          clear f2
          go_wp2_with fail
          go_ret
          exact ⟨Q.refl _, 41, rfl, Or.inl (Or.inr (Or.inl ⟨h2, hl, fun h => (by have := (h k hlt').2; rw [F2.out] at this; cases this), rfl⟩))⟩
        · have F2 : Hid (finN (ky l k) = true) := f2
          clear f2
          go_wp2_with fail
          go_roundg (gk - 1)
          case measure => go_light; omega
          case rel => go_light; exact ⟨k + 1, by go_num, by omega, fin_more HF.out F1.out F2.out, rfl⟩
    · have hk : k = l.length := by omega
      have HF2 : Hid (finTo l l.length) := by rw [← hk]; exact HF
      clear hk hm HF
      go_wp2_with fail
      clear hlt'
      go_loopg [4] (l.length - 1) (fun m s4 wr' => ∃ k : Nat, s4 = .int .i64 ((k : Int) + 1) ∧ k + 1 + m = l.length ∧ Hid (riseTo l k) ∧ Q wr wr')
      case atStart => exact ⟨0, rfl, by omega, (fun i h => absurd h (Nat.not_lt_zero _) : riseTo l 0), Q.refl _⟩
      case round =>
        obtain ⟨j, rfl, hm, HR, hq⟩ := hrel
        by_cases hlt' : j + 1 < l.length
        · obtain ⟨c1, c2⟩ := HK.out.next hq j (by omega)
          obtain ⟨c3, c4⟩ := HK.out.next hq (j + 1) hlt'
          have hi0 : (0 : Int) ≤ (j : Int) := by omega
          have hi1 : (j : Int) + 1 < (l.length : Int) := by omega
          have hi2 : (j : Int) < (l.length : Int) := by omega
          have ha := (hlt j).1
          have hb := (hlt (j + 1)).1
          have hc := (hlt j).2
          have hd := (hlt (j + 1)).2
          cases f1 : lessB (kx l j) (kx l (j + 1))
          · go_wp2_with fail
            go_quiet ((go_at_call 44; exact Calls.quiet_of_same (rbelow_any _ _ (by assumption) (by assumption) _)))
            have F1 : Hid (lessB (kx l j) (kx l (j + 1)) = false) := f1
            clear f1
            go_wp2_with fail
            go_ret
            exact ⟨hq.drewN _, 42, rfl, Or.inl (Or.inr (Or.inr ⟨h2, hl, HF2.out, fun h => (by have := (h j (by omega)).1; rw [F1.out] at this; cases this), rfl⟩))⟩
          · go_wp2_with fail
            go_quiet ((go_at_call 44; exact Calls.quiet_of_same (rbelow_any _ _ (by assumption) (by assumption) _)))
            have F1 : Hid (lessB (kx l j) (kx l (j + 1)) = true) := f1
            clear f1
            cases f2 : lessB (ky l (j + 1)) (ky l j)
            · have NR : Hid (riseTo l (j + 1)) := rise_more HR.out F1.out f2
              clear HR F1
              go_wp2_with fail
              clear f2
              go_roundg (l.length - 1 - (j + 1))
              case measure => go_light; omega
              case rel => go_light; exact ⟨j + 1, congrArg (Value.int .i64) (by omega), by omega, NR, hq.drewN _⟩
            · have F2 : Hid (lessB (ky l (j + 1)) (ky l j) = true) := f2
              clear f2
              go_wp2_with fail
              go_ret
              exact ⟨hq.drewN _, 42, rfl, Or.inl (Or.inr (Or.inr ⟨h2, hl, HF2.out, fun h => (by have := (h j (by omega)).2; rw [F2.out] at this; cases this), rfl⟩))⟩
        · have hj : j = l.length - 1 := by omega
          have HR2 : Hid (riseTo l (l.length - 1)) := by rw [← hj]; exact HR
          clear hj
          go_wp2_with fail
          go_ret
          exact ⟨hq, 0, rfl, Or.inr ⟨⟨h2, hl, HF2.out, HR2.out⟩, rfl⟩⟩
end Go.Proofs.Ytmfniimelibhfaa
/- The document's curves: At. -/
namespace Go.Proofs.Ytmfniimelibhfaa
open Go.RowKit
set_option linter.unusedVariables false

theorem qw_of {w : World} {a : Addr} {v : Value} (_ : w.cell? a = some v) : Nonempty (QW w) := qw_some w
theorem srung_cases (x : Nat) : srung32 x = (rung32 x : Int) ∨ srung32 x = -(rung32 x : Int) := by unfold srung32; split <;> simp
theorem fin_mid {a b x : Nat} (fa : rung32 a < 2139095040) (fb : rung32 b < 2139095040) (h1 : srung32 a < srung32 x) (h2 : srung32 x < srung32 b) : rung32 x < 2139095040 := by
  rcases srung_cases a with e1 | e1 <;> rcases srung_cases b with e2 | e2 <;> rcases srung_cases x with e3 | e3 <;> omega
theorem above_char {l : List (Nat × Nat)} (hl : COk l) {x r : Nat} (hn : nanN x = false) (hr : r ≤ l.length) (h1 : r = l.length ∨ srung32 x < srung32 (kx l r)) (h2 : r = 0 ∨ srung32 (kx l (r - 1)) ≤ srung32 x) : aboveV l x = r := by
  obtain ⟨a, b, c⟩ := above_facts l x
  have f : ∀ i, i < l.length → nanN (kx l i) = false := fun i hi => fin_nan (hl.fin i hi).1
  rcases Nat.lt_trichotomy (aboveV l x) r with g | g | g
  · exfalso
    rcases b with b | b
    · omega
    · rw [lessB_num hn (f _ (by omega))] at b
      have b := of_decide_eq_true b
      rcases h2 with h2 | h2
      · omega
      · rcases Nat.lt_or_eq_of_le (show aboveV l x ≤ r - 1 by omega) with k | k
        · have := kx_mono hl k (by omega); omega
        · rw [k] at b; omega
  · exact g
  · exfalso
    rcases c with c | c
    · omega
    · rw [lessB_num hn (f _ (by omega))] at c
      have c := of_decide_eq_false c
      rcases h1 with h1 | h1
      · omega
      · rcases Nat.lt_or_eq_of_le (show r ≤ aboveV l x - 1 by omega) with k | k
        · have := kx_mono hl k (by omega); omega
        · rw [← k] at c; omega
theorem at_lo {l : List (Nat × Nat)} (hl : COk l) {x : Nat} (hn : nanN x = false) (h : lessB (kx l 0) x = false) : atV l x = ky l 0 := by
  have t := hl.two
  have f0 := fin_nan (hl.fin 0 (by omega)).1
  rw [lessB_num f0 hn] at h
  have h := of_decide_eq_false h
  by_cases g : srung32 x < srung32 (kx l 0)
  · exact atV_lo hn (above_char hl hn (Nat.zero_le _) (Or.inr g) (Or.inl rfl))
  · have k := kx_mono hl (i := 0) (j := 1) (by omega) (by omega)
    have e := above_char hl hn (r := 1) (by omega) (Or.inr (by omega)) (Or.inr (by show srung32 (kx l 0) ≤ _; omega))
    have := atV_knot (l := l) hn (by rw [e]; decide) (Or.inr (by rw [e, equalB_num f0 hn]; exact decide_eq_true (by show srung32 (kx l 0) = _; omega)))
    rw [this, e]
theorem at_hi {l : List (Nat × Nat)} (hl : COk l) {x : Nat} (hn : nanN x = false) (h : lessB x (kx l (l.length - 1)) = false) : atV l x = ky l (l.length - 1) := by
  have t := hl.two
  rw [lessB_num hn (fin_nan (hl.fin _ (by omega)).1)] at h
  have h := of_decide_eq_false h
  have e := above_char hl hn (Nat.le_refl _) (Or.inl rfl) (Or.inr (by omega))
  rw [atV_knot hn (by rw [e]; omega) (Or.inl e), e]
theorem at_same {l : List (Nat × Nat)} (hl : COk l) {x i : Nat} (hn : nanN x = false) (hi : i < l.length) (h : equalB x (kx l i) = true) : atV l x = ky l i := by
  have f := fin_nan (hl.fin i hi).1
  rw [equalB_num hn f] at h
  have h := of_decide_eq_true h
  have e : aboveV l x = i + 1 := by
    refine above_char hl hn (by omega) ?_ (Or.inr (by rw [show i + 1 - 1 = i by omega]; omega))
    by_cases g : i + 1 = l.length
    · exact Or.inl g
    · exact Or.inr (by have := kx_mono hl (i := i) (j := i + 1) (by omega) (by omega); omega)
  rw [atV_knot hn (by rw [e]; omega) (Or.inr (by rw [e, show i + 1 - 1 = i by omega, equalB_num f hn]; exact decide_eq_true h.symm)), e, show i + 1 - 1 = i by omega]
theorem at_in {l : List (Nat × Nat)} (hl : COk l) {x i : Nat} (hn : nanN x = false) (h0 : i ≠ 0) (hi : i < l.length) (h1 : srung32 (kx l (i - 1)) < srung32 x) (h2 : srung32 x < srung32 (kx l i)) :
    atV l x = pieceV (kx l (i - 1)) (ky l (i - 1)) (kx l i) (ky l i) x := by
  have e : aboveV l x = i := above_char hl hn (by omega) (Or.inr h2) (Or.inr (by omega))
  rw [atV_in hn (by rw [e]; exact h0) (by rw [e]; omega) (by rw [e, equalB_num (fin_nan (hl.fin _ (by omega)).1) hn]; exact decide_eq_false (by omega)), e]

set_option maxHeartbeats 4000000 in
theorem rat_any (g o cap : Nat) (l : List (Nat × Nat)) (hl : COk l) (x : Nat) (hx : x < 4294967296) (w : World) (hk : KIs w g o l) :
    Calls Try.prog 14 #[.slice (some ⟨g, o, none⟩) l.length cap, .int .u32 x] w fun e w' => e = .returned (.int .u32 (atV l x : Nat)) ∧ Q w w' := by
  have h2 := hl.two
  have h3 := hl.many
  obtain ⟨n, hn1⟩ : ∃ n, l.length = n + 1 := ⟨l.length - 1, by omega⟩
  cases hn : nanN x
  · have c0 := hk 0 (by omega)
    rw [Nat.zero_mul, Nat.add_zero] at c0
    obtain ⟨c1, c2⟩ := c0
    obtain ⟨c3, c4⟩ := hk n (by omega)
    have l0 := (hl.lt 0).1
    have ln := (hl.lt n).1
    have HN : Hid (l.length = n + 1) := hn1
    have HK : Hid (KIs w g o l) := hk
    have HL : Hid (COk l) := hl
    have HX : Hid (nanN x = false) := hn
    rw [hn1]
    rw [hn1] at h2 h3
    have b1 : (0 : Int) < ((n + 1 : Nat) : Int) := by omega
    have b2 : (n : Int) < ((n + 1 : Nat) : Int) := by omega
    have b3 : ((n + 1 : Nat) : Int) - 1 = (n : Int) := by omega
    have b4 : (0 : Int) ≤ (n : Int) := by omega
    clear hl hk hn1
    go_enter Try.func14, Try.ntmps14
    go_wp2_with fail
    refine (rnan_any x hx _).mono ?_
    rintro e w1 ⟨rfl, rfl⟩
    go_wp2_with fail
    refine (rbelow_any (kx l 0) x l0 hx _).mono ?_
    rintro e w1 ⟨rfl, rfl⟩
    cases f1 : lessB (kx l 0) x
    · have F1 : Hid (lessB (kx l 0) x = false) := f1
      clear f1
      go_wp2_with fail
      go_ret
      exact ⟨ret_int (by rw [at_lo HL.out HX.out F1.out]), Q.refl _⟩
    · have F1 : Hid (lessB (kx l 0) x = true) := f1
      clear f1
      go_wp2_with fail
      refine (rbelow_any x (kx l n) hx ln _).mono ?_
      rintro e w1 ⟨rfl, rfl⟩
      cases f2 : lessB x (kx l n)
      · have F2 : Hid (lessB x (kx l n) = false) := f2
        clear f2
        go_wp2_with fail
        go_ret
        exact ⟨ret_int (by have := at_hi HL.out HX.out (by rw [HN.out]; exact F2.out); rw [this, HN.out]; rfl), Q.refl _⟩
      · have F2 : Hid (lessB x (kx l n) = true) := f2
        clear f2
        go_wp2_with fail
        have S0 : Hid (srung32 (kx l 0) < srung32 x) := by
          have := F1.out
          rw [lessB_num (fin_nan (HL.out.fin 0 (by rw [HN.out]; omega)).1) HX.out] at this
          show srung32 (kx l 0) < srung32 x
          exact of_decide_eq_true this
        go_loopg [6] n (fun m s6 wr => ∃ k : Nat, s6 = .int .i64 ((k : Int) + 1) ∧ k + m = n ∧ Hid (srung32 (kx l k) < srung32 x) ∧ wr = w1)
        case atStart => exact ⟨0, rfl, by omega, S0, rfl⟩
        case round =>
          obtain ⟨k, rfl, hm, HS, rfl⟩ := hrel
          by_cases hkn : k < n
          · have lk1 := (HL.out.lt (k + 1)).1
            obtain ⟨d1, d2⟩ := HK.out k (by rw [HN.out]; omega)
            obtain ⟨d3, d4⟩ := HK.out (k + 1) (by rw [HN.out]; omega)
            have i1 : (k : Int) + 1 ≤ (n : Int) := by omega
            have i2 : (0 : Int) ≤ (k : Int) := by omega
            have i3 : (k : Int) + 1 < ((n + 1 : Nat) : Int) := by omega
            have i4 : (k : Int) < ((n + 1 : Nat) : Int) := by omega
            go_wp2_with fail
            refine (rsame_any x (kx l (k + 1)) hx lk1 _).mono ?_
            rintro e w1 ⟨rfl, rfl⟩
            cases f3 : equalB x (kx l (k + 1))
            · have F3 : Hid (equalB x (kx l (k + 1)) = false) := f3
              clear f3
              go_wp2_with fail
              refine (rbelow_any x (kx l (k + 1)) hx lk1 _).mono ?_
              rintro e w1 ⟨rfl, rfl⟩
              cases f4 : lessB x (kx l (k + 1))
              · have NS : Hid (srung32 (kx l (k + 1)) < srung32 x) := by
                  have a1 := F3.out
                  have a2 := f4
                  have fk := fin_nan (HL.out.fin (k + 1) (by rw [HN.out]; omega)).1
                  rw [equalB_num HX.out fk] at a1
                  rw [lessB_num HX.out fk] at a2
                  have a1 := of_decide_eq_false a1
                  have a2 := of_decide_eq_false a2
                  show srung32 (kx l (k + 1)) < srung32 x
                  omega
                go_wp2_with fail
                clear f4
                go_roundg (n - (k + 1))
                case measure => go_light; omega
                case rel => go_light; exact ⟨k + 1, congrArg (Value.int .i64) (by omega), by omega, NS, rfl⟩
              · have F4 : Hid (srung32 x < srung32 (kx l (k + 1))) := by
                  have a2 := f4
                  rw [lessB_num HX.out (fin_nan (HL.out.fin (k + 1) (by rw [HN.out]; omega)).1)] at a2
                  show srung32 x < srung32 (kx l (k + 1))
                  exact of_decide_eq_true a2
                go_wp2_with fail
                clear f4
                have n0 := qw_of d1
                have e1 := qw_cell d1
                have e2 := qw_cell d2
                have e3 := qw_cell d3
                have e4 := qw_cell d4
                have hlen : k + 1 < l.length := by rw [HN.out]; omega
                have HW : Hid (∀ W, Calls Try.prog 45 #[.agg #[.int .u32 (kx l k), .int .u32 (ky l k)], .agg #[.int .u32 (kx l (k + 1)), .int .u32 (ky l (k + 1))], .int .u32 x] W fun e w' => e = .returned (.int .u32 (atV l x : Nat)) ∧ Q W w') := fun W => by
                  have hr := (HL.out.rise k hlen).2
                  have hp := at_in HL.out (i := k + 1) HX.out (by omega) hlen HS.out F4.out
                  rw [show k + 1 - 1 = k by omega] at hp
                  rw [hp]
                  have z0 : rung32 x < 2139095040 := by
                    have a := HS.out
                    have b := F4.out
                    have fa := (HL.out.fin k (by omega)).1
                    have fb := (HL.out.fin (k + 1) hlen).1
                    exact fin_mid fa fb a b
                  exact rbetween_any (HL.out.lt k).1 (HL.out.lt k).2 (HL.out.lt (k + 1)).1 (HL.out.lt (k + 1)).2 hx (HL.out.fin k (by omega)).1 (HL.out.fin k (by omega)).2 (HL.out.fin (k + 1) hlen).1 (HL.out.fin (k + 1) hlen).2 z0 HS.out F4.out hr W
                clear d1 d2 d3 d4 hlen
                refine wp_region_quiet_Q (by kernel_rfl) (by kernel_rfl) ?_
                repeat (first | go_big_quiet_step ((go_at_call 45; exact calls_qw (HW.out _))) | quiet_step ((go_at_call 45; exact calls_qw (HW.out _))))
                refine wpQuiet_nil ?_
                intro w4 hw'
                have hq4 := qw_out hw'
                clear hw'
                go_wp2_with fail
                go_ret
                exact ⟨rfl, hq4⟩
            · have F3 : Hid (equalB x (kx l (k + 1)) = true) := f3
              clear f3
              go_wp2_with fail
              go_ret
              exact ⟨ret_int (by rw [at_same HL.out HX.out (by rw [HN.out]; omega) F3.out]), Q.refl _⟩
          · exfalso
            have hk : k = n := by omega
            have a1 := F2.out
            have a2 := HS.out
            rw [hk] at a2
            rw [lessB_num HX.out (fin_nan (HL.out.fin n (by rw [HN.out]; omega)).1)] at a1
            have a1 := of_decide_eq_true a1
            omega
  · rw [atV_nan hn]
    go_enter Try.func14, Try.ntmps14
    go_wp2_with fail
    refine (rnan_any x hx _).mono ?_
    rintro e w1 ⟨rfl, rfl⟩
    go_wp2_with fail
    go_ret
    exact ⟨rfl, Q.refl _⟩
end Go.Proofs.Ytmfniimelibhfaa
/- Least and Check of a curve. -/
namespace Go.Proofs.Ytmfniimelibhfaa
open Go.RowKit

set_option maxHeartbeats 1000000 in
theorem cleastm_any (b o : Nat) (l : List (Nat × Nat)) (hl : COk l) (y : Nat) (w : World) (hc : CIs w b o l) :
    Calls Try.prog 16 #[.pointer (some ⟨b, o, none⟩), .int .u32 y] w fun e w' => e = .returned (.tuple #[prV (lpX (atV l) (kx l 0) (kx l (l.length - 1)) y) (lpB (atV l) (kx l 0) (kx l (l.length - 1)) y) (lpH (atV l) (kx l 0) (kx l (l.length - 1)) y), .int .i64 (lpE (atV l) (kx l (l.length - 1)) y)]) ∧ Q w w' := by
  have HC : Hid (CIs w b o l) := hc
  clear hc
  obtain ⟨X, hX⟩ : ∃ X, lpX (atV l) (kx l 0) (kx l (l.length - 1)) y = X := ⟨_, rfl⟩
  obtain ⟨B, hB⟩ : ∃ B, lpB (atV l) (kx l 0) (kx l (l.length - 1)) y = B := ⟨_, rfl⟩
  obtain ⟨H, hH⟩ : ∃ H, lpH (atV l) (kx l 0) (kx l (l.length - 1)) y = H := ⟨_, rfl⟩
  obtain ⟨E, hE⟩ : ∃ E, lpE (atV l) (kx l (l.length - 1)) y = E := ⟨_, rfl⟩
  rw [hX, hB, hH, hE]
  have HX : Hid (lpX (atV l) (kx l 0) (kx l (l.length - 1)) y = X ∧ lpB (atV l) (kx l 0) (kx l (l.length - 1)) y = B ∧ lpH (atV l) (kx l 0) (kx l (l.length - 1)) y = H ∧ lpE (atV l) (kx l (l.length - 1)) y = E) := ⟨hX, hB, hH, hE⟩
  clear hX hB hH hE
  unfold prV
  go_enter Try.func16, Try.ntmps16
  go_wp2_with fail
  refine (curveleast_any b o l hl y _ (HC.out.next ((Q.refl w).cells _ _)) _ _ rfl rfl).mono ?_
  rintro e w1 ⟨rfl, q1⟩
  have r0 : w1.cell? ⟨w.heap.size, 0, none⟩ = some (.int .u32 0) := q1.cell (by simp [go_sem])
  have r1 : w1.cell? ⟨w.heap.size, 1, none⟩ = some (.int .u32 0) := q1.cell (by simp [go_sem])
  have r2 : w1.cell? ⟨w.heap.size, 2, none⟩ = some (.bool false) := q1.cell (by simp [go_sem])
  have z0 : w1.frozen? ⟨w.heap.size, 0, none⟩ = false := by rw [q1.2]; simp [go_sem]
  have z1 : w1.frozen? ⟨w.heap.size, 1, none⟩ = false := by rw [q1.2]; simp [go_sem]
  have z2 : w1.frozen? ⟨w.heap.size, 2, none⟩ = false := by rw [q1.2]; simp [go_sem]
  have hq : Q w w1 := ((Q.refl w).cells _ _).trans q1
  clear q1
  rw [HX.out.1, HX.out.2.1, HX.out.2.2.1, HX.out.2.2.2]
  unfold prV
  go_wp2_with fail
  refine bodyPost_ret (v := .tuple #[.agg #[.int .u32 X, .int .u32 B, .bool H], .int .i64 E]) (by simp [results, Try.results16, go_sem, r0, r1, r2]) rfl ⟨rfl, ?_⟩
  exact ((hq.set (Nat.le_refl _) _).set (Nat.le_refl _) _).set (Nat.le_refl _) _

/-- Whether a proof proves it. -/
def checkB (f : Nat → Nat) (first last y X B : Nat) (H : Bool) : Bool :=
  if keyN X < keyN first ∨ keyN last < keyN X ∨ comesB f X y = false ∨ H ≠ (X != first) then false
  else if H = false then B == 0 else (decide ((keyN X : Int) - (keyN B : Int) = 1)) && !comesB f B y
theorem check_no {f : Nat → Nat} {first last y X B : Nat} {H : Bool} (h : keyN X < keyN first ∨ keyN last < keyN X ∨ comesB f X y = false ∨ H ≠ (X != first)) : checkB f first last y X B H = false := by
  unfold checkB; rw [if_pos h]
theorem check_0 {f : Nat → Nat} {first last y X B : Nat} {H : Bool} (h : ¬ (keyN X < keyN first ∨ keyN last < keyN X ∨ comesB f X y = false ∨ H ≠ (X != first))) (hH : H = false) : checkB f first last y X B H = (B == 0) := by
  unfold checkB; rw [if_neg h, if_pos hH]
theorem check_1 {f : Nat → Nat} {first last y X B : Nat} {H : Bool} (h : ¬ (keyN X < keyN first ∨ keyN last < keyN X ∨ comesB f X y = false ∨ H ≠ (X != first))) (hH : H = true) : checkB f first last y X B H = ((decide ((keyN X : Int) - (keyN B : Int) = 1)) && !comesB f B y) := by
  unfold checkB; rw [if_neg h, if_neg (by rw [hH]; decide)]

set_option maxHeartbeats 4000000 in
theorem curvecheck_any (b o : Nat) (l : List (Nat × Nat)) (hl : COk l) (y X B : Nat) (H : Bool) (hX : X < 4294967296) (hB : B < 4294967296) (w : World) (hc : CIs w b o l) (F L : Nat) (hF : F = kx l 0) (hL : L = kx l (l.length - 1)) :
    Calls Try.prog 48 #[.iface 25 (.pointer (some ⟨b, o, none⟩)), .int .u32 y, .agg #[.int .u32 X, .int .u32 B, .bool H]] w fun e w' => e = .returned (.bool (checkB (atV l) F L y X B H)) ∧ Q w w' := by
  have hFl : F < 4294967296 := by rw [hF]; exact (hl.lt 0).1
  have hLl : L < 4294967296 := by rw [hL]; exact (hl.lt _).1
  have hkX := keyN_lt hX
  have hkB := keyN_lt hB
  have HE : Hid (kx l 0 = F ∧ kx l (l.length - 1) = L) := ⟨hF.symm, hL.symm⟩
  have HC : Hid (CIs w b o l) := hc
  have HL : Hid (COk l) := hl
  clear hF hL hc hl
  have hm : ∀ w : World, (method 220 25 (.pointer (some ⟨b, o, none⟩)) "halide/curve.ends").run Try.prog w = .ok (89, .pointer (some ⟨b, o, none⟩)) w := fun _ => by kernel_rfl
  go_enter Try.func48, Try.ntmps48
  go_wp2_with fail
  refine (ends_any b o l HL.out _ (HC.out.next ((Q.refl w).cells _ _))).mono ?_
  rintro e w1 ⟨rfl, q1⟩
  rw [HE.out.1, HE.out.2]
  have r0 : w1.cell? ⟨w.heap.size, 0, none⟩ = some (.int .u32 X) := q1.cell (by simp [go_sem])
  have r1 : w1.cell? ⟨w.heap.size, 1, none⟩ = some (.int .u32 B) := q1.cell (by simp [go_sem])
  have r2 : w1.cell? ⟨w.heap.size, 2, none⟩ = some (.bool H) := q1.cell (by simp [go_sem])
  have hq : Q w w1 := ((Q.refl w).cells _ _).trans q1
  clear q1
  go_wp2_with fail
  refine (befN_any X F hX hFl _).mono ?_
  rintro e w1' ⟨rfl, rfl⟩
  by_cases g1 : keyN X < keyN F
  · have G1 : Hid (keyN X < keyN F) := g1
    rw [decide_eq_true g1]
    clear g1
    go_wp2_with fail
    go_ret
    exact ⟨ret_bool (by rw [check_no (Or.inl G1.out)]), hq⟩
  · have G1 : Hid (¬ keyN X < keyN F) := g1
    rw [decide_eq_false g1]
    clear g1
    go_wp2_with fail
    refine (befN_any L X hLl hX _).mono ?_
    rintro e w1' ⟨rfl, rfl⟩
    by_cases g2 : keyN L < keyN X
    · have G2 : Hid (keyN L < keyN X) := g2
      rw [decide_eq_true g2]
      clear g2
      go_wp2_with fail
      go_ret
      exact ⟨ret_bool (by rw [check_no (Or.inr (Or.inl G2.out))]), hq⟩
    · have G2 : Hid (¬ keyN L < keyN X) := g2
      rw [decide_eq_false g2]
      clear g2
      go_wp2_with fail
      refine (comes_any b o l HL.out X y hX _ (HC.out.next hq)).mono ?_
      rintro e w2 ⟨rfl, q2⟩
      replace r0 := q2.cell r0
      replace r1 := q2.cell r1
      replace r2 := q2.cell r2
      replace hq := hq.trans q2
      clear q2
      cases g3 : comesB (atV l) X y
      · have G3 : Hid (comesB (atV l) X y = false) := g3
        clear g3
        go_wp2_with fail
        go_ret
        exact ⟨ret_bool (by rw [check_no (Or.inr (Or.inr (Or.inl G3.out)))]), hq⟩
      · have G3 : Hid (comesB (atV l) X y = true) := g3
        clear g3
        have hXF : ((X : Int) != (F : Int)) = (X != F) := by
          by_cases h : X = F
          · subst h; simp
          · rw [bne_iff_ne.2 h, bne_iff_ne]; omega
        generalize hN : (X != F) = N at hXF
        have HN : Hid ((X != F) = N) := hN
        clear hN
        cases H <;> cases N
        · go_wp2_with fail
          go_ret
          refine ⟨ret_bool ?_, hq⟩
          rw [check_0 (fun h => ?_) rfl]
          · by_cases h : B = 0
            · subst h; rfl
            · rw [beq_eq_false_iff_ne.2 h, beq_eq_false_iff_ne]; omega
          · rcases h with h | h | h | h
            · exact G1.out h
            · exact G2.out h
            · rw [G3.out] at h; cases h
            · exact h HN.out.symm
        · go_wp2_with fail
          go_ret
          exact ⟨ret_bool (by rw [check_no (Or.inr (Or.inr (Or.inr (by rw [HN.out]; decide))))]), hq⟩
        · go_wp2_with fail
          go_ret
          exact ⟨ret_bool (by rw [check_no (Or.inr (Or.inr (Or.inr (by rw [HN.out]; decide))))]), hq⟩
        · have no : Hid (¬ (keyN X < keyN F ∨ keyN L < keyN X ∨ comesB (atV l) X y = false ∨ true ≠ (X != F))) := fun h => by
            rcases h with h | h | h | h
            · exact G1.out h
            · exact G2.out h
            · rw [G3.out] at h; cases h
            · exact h HN.out.symm
          go_wp2_with fail
          refine (apart_any B X hB hX _).mono ?_
          rintro e w2' ⟨rfl, rfl⟩
          by_cases g4 : (keyN X : Int) - (keyN B : Int) = 1
          · have G4 : Hid ((keyN X : Int) - (keyN B : Int) = 1) := g4
            rw [g4]
            clear g4
            go_wp2_with fail
            refine (comes_any b o l HL.out B y hB _ (HC.out.next hq)).mono ?_
            rintro e w3 ⟨rfl, q3⟩
            go_wp2_with fail
            go_ret
            exact ⟨ret_bool (by rw [check_1 no.out rfl, decide_eq_true G4.out]; rfl), hq.trans q3⟩
          · have G4 : Hid (¬ (keyN X : Int) - (keyN B : Int) = 1) := g4
            have g5 : ((keyN X : Int) - (keyN B : Int) == 1) = false := beq_eq_false_iff_ne.2 g4
            clear g4
            go_wp2_with fail
            go_ret
            exact ⟨ret_bool (by rw [check_1 no.out rfl, decide_eq_false G4.out]; rfl), hq⟩

set_option maxHeartbeats 1000000 in
theorem ccheckm_any (b o : Nat) (l : List (Nat × Nat)) (hl : COk l) (y X B : Nat) (H : Bool) (hX : X < 4294967296) (hB : B < 4294967296) (w : World) (hc : CIs w b o l) :
    Calls Try.prog 17 #[.pointer (some ⟨b, o, none⟩), .int .u32 y, prV X B H] w fun e w' => e = .returned (.bool (checkB (atV l) (kx l 0) (kx l (l.length - 1)) y X B H)) ∧ Q w w' := by
  have HC : Hid (CIs w b o l) := hc
  clear hc
  unfold prV
  go_enter Try.func17, Try.ntmps17
  go_wp2_with fail
  refine (curvecheck_any b o l hl y X B H hX hB _ (HC.out.next ((Q.refl w).cells _ _)) _ _ rfl rfl).mono ?_
  rintro e w1 ⟨rfl, q1⟩
  go_wp2_with fail
  go_ret
  exact ⟨rfl, ((Q.refl w).cells _ _).trans q1⟩
end Go.Proofs.Ytmfniimelibhfaa
/- The examples of the chapter. -/
namespace Go.Proofs.Ytmfniimelibhfaa
open Go.RowKit

def lk : List (Nat × Nat) := [(0, 0), (1065353216, 1056964608), (1073741824, 1082130432)]
theorem lk_lt (i : Nat) : kx lk i < 4294967296 ∧ ky lk i < 4294967296 := by
  match i with
  | 0 => decide
  | 1 => decide
  | 2 => decide
  | i + 3 => exact ⟨by show 0 < _; decide, by show 0 < _; decide⟩
theorem lk_1 : atV lk 1056964608 = 1048576000 := by decide +kernel
theorem lk_2 : atV lk 1069547520 = 1074790400 := by decide +kernel
theorem lk_3 : atV lk 3212836864 = 0 := by decide +kernel
theorem lk_4 : atV lk 2139095041 = 2143289344 := by decide +kernel
theorem lk_5 : lpX (atV lk) 0 1073741824 1048576000 = 1056964608 := by decide +kernel
theorem lk_6 : lpB (atV lk) 0 1073741824 1048576000 = 1056964607 := by decide +kernel
theorem lk_7 : lpH (atV lk) 0 1073741824 1048576000 = true := by decide +kernel
theorem lk_8 : lpE (atV lk) 1073741824 1048576000 = 0 := by decide +kernel
theorem lk_9 : lpE (atV lk) 1073741824 1084227584 = 43 := by decide +kernel
theorem lk_10 : checkB (atV lk) 0 1073741824 1048576000 1056964608 1056964607 true = true := by decide +kernel
theorem lk_ok : Good lk := by
  refine ⟨by decide, by decide, fun i hi => ?_, fun i hi => ?_⟩
  · match i, hi with
    | 0, _ => decide +kernel
    | 1, _ => decide +kernel
    | 2, _ => decide +kernel
    | i + 3, h => exact absurd h (by show ¬ (i + 3 < 3); omega)
  · match i, hi with
    | 0, _ => decide +kernel
    | 1, _ => decide +kernel
    | i + 2, h => exact absurd h (by show ¬ (i + 2 < 2); omega)
theorem lk_n {r : Int} : ¬ Bad lk r := by
  obtain ⟨h1, h2, h3, h4⟩ := lk_ok
  rintro (⟨h, _⟩ | ⟨_, _, h, _⟩ | ⟨_, _, _, h, _⟩)
  · omega
  · exact h h3
  · exact h h4
end Go.Proofs.Ytmfniimelibhfaa
