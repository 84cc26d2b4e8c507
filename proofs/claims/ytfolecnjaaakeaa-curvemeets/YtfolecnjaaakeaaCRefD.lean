/- The document's curves: At. -/
import Derived.Test.YtfolecnjaaakeaaCRefC
namespace Go.Proofs.Ytfolecnjaaakeaa
open Go.RowKit
set_option linter.unusedVariables false

theorem qw_of {w : World} {a : Addr} {v : Value} (_ : w.cell? a = some v) : Nonempty (QW w) := qw_some w
theorem srung_cases (x : Nat) : srung32 x = (rung32 x : Int) ∨ srung32 x = -(rung32 x : Int) := by unfold srung32; split <;> simp
theorem fin_mid {a b x : Nat} (fa : rung32 a < 2139095040) (fb : rung32 b < 2139095040) (h1 : srung32 a < srung32 x) (h2 : srung32 x < srung32 b) : rung32 x < 2139095040 := by
  rcases srung_cases a with e1 | e1 <;> rcases srung_cases b with e2 | e2 <;> rcases srung_cases x with e3 | e3 <;> omega
theorem above_char {l : List (Nat × Nat)} (hl : COk l) {x r : Nat} (hn : nanN x = false) (hr : r ≤ l.length) (h1 : r = l.length ∨ srung32 x < srung32 (kx l r)) (h2 : r = 0 ∨ srung32 (kx l (r - 1)) ≤ srung32 x) : aboveV l x = r := by
  obtain ⟨a, b, c⟩ := above_facts l x
  have f : ∀ i, i < l.length → nanN (kx l i) = false := fun i hi => fin_nan (hl.fin i hi).1
  rcases Nat.lt_trichotomy (aboveV l x) r with g | g | g
  · exfalso
    rcases b with b | b
    · omega
    · rw [lessB_num hn (f _ (by omega))] at b
      have b := of_decide_eq_true b
      rcases h2 with h2 | h2
      · omega
      · rcases Nat.lt_or_eq_of_le (show aboveV l x ≤ r - 1 by omega) with k | k
        · have := kx_mono hl k (by omega); omega
        · rw [k] at b; omega
  · exact g
  · exfalso
    rcases c with c | c
    · omega
    · rw [lessB_num hn (f _ (by omega))] at c
      have c := of_decide_eq_false c
      rcases h1 with h1 | h1
      · omega
      · rcases Nat.lt_or_eq_of_le (show r ≤ aboveV l x - 1 by omega) with k | k
        · have := kx_mono hl k (by omega); omega
        · rw [← k] at c; omega
theorem at_lo {l : List (Nat × Nat)} (hl : COk l) {x : Nat} (hn : nanN x = false) (h : lessB (kx l 0) x = false) : atV l x = ky l 0 := by
  have t := hl.two
  have f0 := fin_nan (hl.fin 0 (by omega)).1
  rw [lessB_num f0 hn] at h
  have h := of_decide_eq_false h
  by_cases g : srung32 x < srung32 (kx l 0)
  · exact atV_lo hn (above_char hl hn (Nat.zero_le _) (Or.inr g) (Or.inl rfl))
  · have k := kx_mono hl (i := 0) (j := 1) (by omega) (by omega)
    have e := above_char hl hn (r := 1) (by omega) (Or.inr (by omega)) (Or.inr (by show srung32 (kx l 0) ≤ _; omega))
    have := atV_knot (l := l) hn (by rw [e]; decide) (Or.inr (by rw [e, equalB_num f0 hn]; exact decide_eq_true (by show srung32 (kx l 0) = _; omega)))
    rw [this, e]
theorem at_hi {l : List (Nat × Nat)} (hl : COk l) {x : Nat} (hn : nanN x = false) (h : lessB x (kx l (l.length - 1)) = false) : atV l x = ky l (l.length - 1) := by
  have t := hl.two
  rw [lessB_num hn (fin_nan (hl.fin _ (by omega)).1)] at h
  have h := of_decide_eq_false h
  have e := above_char hl hn (Nat.le_refl _) (Or.inl rfl) (Or.inr (by omega))
  rw [atV_knot hn (by rw [e]; omega) (Or.inl e), e]
theorem at_same {l : List (Nat × Nat)} (hl : COk l) {x i : Nat} (hn : nanN x = false) (hi : i < l.length) (h : equalB x (kx l i) = true) : atV l x = ky l i := by
  have f := fin_nan (hl.fin i hi).1
  rw [equalB_num hn f] at h
  have h := of_decide_eq_true h
  have e : aboveV l x = i + 1 := by
    refine above_char hl hn (by omega) ?_ (Or.inr (by rw [show i + 1 - 1 = i by omega]; omega))
    by_cases g : i + 1 = l.length
    · exact Or.inl g
    · exact Or.inr (by have := kx_mono hl (i := i) (j := i + 1) (by omega) (by omega); omega)
  rw [atV_knot hn (by rw [e]; omega) (Or.inr (by rw [e, show i + 1 - 1 = i by omega, equalB_num f hn]; exact decide_eq_true h.symm)), e, show i + 1 - 1 = i by omega]
theorem at_in {l : List (Nat × Nat)} (hl : COk l) {x i : Nat} (hn : nanN x = false) (h0 : i ≠ 0) (hi : i < l.length) (h1 : srung32 (kx l (i - 1)) < srung32 x) (h2 : srung32 x < srung32 (kx l i)) :
    atV l x = pieceV (kx l (i - 1)) (ky l (i - 1)) (kx l i) (ky l i) x := by
  have e : aboveV l x = i := above_char hl hn (by omega) (Or.inr h2) (Or.inr (by omega))
  rw [atV_in hn (by rw [e]; exact h0) (by rw [e]; omega) (by rw [e, equalB_num (fin_nan (hl.fin _ (by omega)).1) hn]; exact decide_eq_false (by omega)), e]

set_option maxHeartbeats 4000000 in
theorem rat_any (g o cap : Nat) (l : List (Nat × Nat)) (hl : COk l) (x : Nat) (hx : x < 4294967296) (w : World) (hk : KIs w g o l) :
    Calls Try.prog 14 #[.slice (some ⟨g, o, none⟩) l.length cap, .int .u32 x] w fun e w' => e = .returned (.int .u32 (atV l x : Nat)) ∧ Q w w' := by
  have h2 := hl.two
  have h3 := hl.many
  obtain ⟨n, hn1⟩ : ∃ n, l.length = n + 1 := ⟨l.length - 1, by omega⟩
  cases hn : nanN x
  · have c0 := hk 0 (by omega)
    rw [Nat.zero_mul, Nat.add_zero] at c0
    obtain ⟨c1, c2⟩ := c0
    obtain ⟨c3, c4⟩ := hk n (by omega)
    have l0 := (hl.lt 0).1
    have ln := (hl.lt n).1
    have HN : Hid (l.length = n + 1) := hn1
    have HK : Hid (KIs w g o l) := hk
    have HL : Hid (COk l) := hl
    have HX : Hid (nanN x = false) := hn
    rw [hn1]
    rw [hn1] at h2 h3
    have b1 : (0 : Int) < ((n + 1 : Nat) : Int) := by omega
    have b2 : (n : Int) < ((n + 1 : Nat) : Int) := by omega
    have b3 : ((n + 1 : Nat) : Int) - 1 = (n : Int) := by omega
    have b4 : (0 : Int) ≤ (n : Int) := by omega
    clear hl hk hn1
    go_enter Try.func14, Try.ntmps14
    go_wp2_with fail
    refine (rnan_any x hx _).mono ?_
    rintro e w1 ⟨rfl, rfl⟩
    go_wp2_with fail
    refine (rbelow_any (kx l 0) x l0 hx _).mono ?_
    rintro e w1 ⟨rfl, rfl⟩
    cases f1 : lessB (kx l 0) x
    · have F1 : Hid (lessB (kx l 0) x = false) := f1
      clear f1
      go_wp2_with fail
      go_ret
      exact ⟨ret_int (by rw [at_lo HL.out HX.out F1.out]), Q.refl _⟩
    · have F1 : Hid (lessB (kx l 0) x = true) := f1
      clear f1
      go_wp2_with fail
      refine (rbelow_any x (kx l n) hx ln _).mono ?_
      rintro e w1 ⟨rfl, rfl⟩
      cases f2 : lessB x (kx l n)
      · have F2 : Hid (lessB x (kx l n) = false) := f2
        clear f2
        go_wp2_with fail
        go_ret
        exact ⟨ret_int (by have := at_hi HL.out HX.out (by rw [HN.out]; exact F2.out); rw [this, HN.out]; rfl), Q.refl _⟩
      · have F2 : Hid (lessB x (kx l n) = true) := f2
        clear f2
        go_wp2_with fail
        have S0 : Hid (srung32 (kx l 0) < srung32 x) := by
          have := F1.out
          rw [lessB_num (fin_nan (HL.out.fin 0 (by rw [HN.out]; omega)).1) HX.out] at this
          show srung32 (kx l 0) < srung32 x
          exact of_decide_eq_true this
        go_loopg [6] n (fun m s6 wr => ∃ k : Nat, s6 = .int .i64 ((k : Int) + 1) ∧ k + m = n ∧ Hid (srung32 (kx l k) < srung32 x) ∧ wr = w1)
        case atStart => exact ⟨0, rfl, by omega, S0, rfl⟩
        case round =>
          obtain ⟨k, rfl, hm, HS, rfl⟩ := hrel
          by_cases hkn : k < n
          · have lk1 := (HL.out.lt (k + 1)).1
            obtain ⟨d1, d2⟩ := HK.out k (by rw [HN.out]; omega)
            obtain ⟨d3, d4⟩ := HK.out (k + 1) (by rw [HN.out]; omega)
            have i1 : (k : Int) + 1 ≤ (n : Int) := by omega
            have i2 : (0 : Int) ≤ (k : Int) := by omega
            have i3 : (k : Int) + 1 < ((n + 1 : Nat) : Int) := by omega
            have i4 : (k : Int) < ((n + 1 : Nat) : Int) := by omega
            go_wp2_with fail
            refine (rsame_any x (kx l (k + 1)) hx lk1 _).mono ?_
            rintro e w1 ⟨rfl, rfl⟩
            cases f3 : equalB x (kx l (k + 1))
            · have F3 : Hid (equalB x (kx l (k + 1)) = false) := f3
              clear f3
              go_wp2_with fail
              refine (rbelow_any x (kx l (k + 1)) hx lk1 _).mono ?_
              rintro e w1 ⟨rfl, rfl⟩
              cases f4 : lessB x (kx l (k + 1))
              · have NS : Hid (srung32 (kx l (k + 1)) < srung32 x) := by
                  have a1 := F3.out
                  have a2 := f4
                  have fk := fin_nan (HL.out.fin (k + 1) (by rw [HN.out]; omega)).1
                  rw [equalB_num HX.out fk] at a1
                  rw [lessB_num HX.out fk] at a2
                  have a1 := of_decide_eq_false a1
                  have a2 := of_decide_eq_false a2
                  show srung32 (kx l (k + 1)) < srung32 x
                  omega
                go_wp2_with fail
                clear f4
                go_roundg (n - (k + 1))
                case measure => go_light; omega
                case rel => go_light; exact ⟨k + 1, congrArg (Value.int .i64) (by omega), by omega, NS, rfl⟩
              · have F4 : Hid (srung32 x < srung32 (kx l (k + 1))) := by
                  have a2 := f4
                  rw [lessB_num HX.out (fin_nan (HL.out.fin (k + 1) (by rw [HN.out]; omega)).1)] at a2
                  show srung32 x < srung32 (kx l (k + 1))
                  exact of_decide_eq_true a2
                go_wp2_with fail
                clear f4
                have n0 := qw_of d1
                have e1 := qw_cell d1
                have e2 := qw_cell d2
                have e3 := qw_cell d3
                have e4 := qw_cell d4
                have hlen : k + 1 < l.length := by rw [HN.out]; omega
                have HW : Hid (∀ W, Calls Try.prog 45 #[.agg #[.int .u32 (kx l k), .int .u32 (ky l k)], .agg #[.int .u32 (kx l (k + 1)), .int .u32 (ky l (k + 1))], .int .u32 x] W fun e w' => e = .returned (.int .u32 (atV l x : Nat)) ∧ Q W w') := fun W => by
                  have hr := (HL.out.rise k hlen).2
                  have hp := at_in HL.out (i := k + 1) HX.out (by omega) hlen HS.out F4.out
                  rw [show k + 1 - 1 = k by omega] at hp
                  rw [hp]
                  have z0 : rung32 x < 2139095040 := by
                    have a := HS.out
                    have b := F4.out
                    have fa := (HL.out.fin k (by omega)).1
                    have fb := (HL.out.fin (k + 1) hlen).1
                    exact fin_mid fa fb a b
                  exact rbetween_any (HL.out.lt k).1 (HL.out.lt k).2 (HL.out.lt (k + 1)).1 (HL.out.lt (k + 1)).2 hx (HL.out.fin k (by omega)).1 (HL.out.fin k (by omega)).2 (HL.out.fin (k + 1) hlen).1 (HL.out.fin (k + 1) hlen).2 z0 HS.out F4.out hr W
                clear d1 d2 d3 d4 hlen
                refine wp_region_quiet_Q (by kernel_rfl) (by kernel_rfl) ?_
                repeat (first | go_big_quiet_step ((go_at_call 45; exact calls_qw (HW.out _))) | quiet_step ((go_at_call 45; exact calls_qw (HW.out _))))
                refine wpQuiet_nil ?_
                intro w4 hw'
                have hq4 := qw_out hw'
                clear hw'
                go_wp2_with fail
                go_ret
                exact ⟨rfl, hq4⟩
            · have F3 : Hid (equalB x (kx l (k + 1)) = true) := f3
              clear f3
              go_wp2_with fail
              go_ret
              exact ⟨ret_int (by rw [at_same HL.out HX.out (by rw [HN.out]; omega) F3.out]), Q.refl _⟩
          · exfalso
            have hk : k = n := by omega
            have a1 := F2.out
            have a2 := HS.out
            rw [hk] at a2
            rw [lessB_num HX.out (fin_nan (HL.out.fin n (by rw [HN.out]; omega)).1)] at a1
            have a1 := of_decide_eq_true a1
            omega
  · rw [atV_nan hn]
    go_enter Try.func14, Try.ntmps14
    go_wp2_with fail
    refine (rnan_any x hx _).mono ?_
    rintro e w1 ⟨rfl, rfl⟩
    go_wp2_with fail
    go_ret
    exact ⟨rfl, Q.refl _⟩
end Go.Proofs.Ytfolecnjaaakeaa
