/- A curve turned round, and what becomes of a sample that goes there and back. -/
import Derived.Test.YtfolecnjaaakeaaCRefX
namespace Go.Proofs.Ytfolecnjaaakeaa
open Go.RowKit
set_option linter.unusedVariables false
set_option linter.unusedSimpArgs false

theorem sw_level {l : List (Nat × Nat)} (hl : COk l) : ¬ Level (sw l) := by
  rintro ⟨i, h1, h2⟩
  rw [sw_length] at h1
  rw [ky_sw, ky_sw, equalB_num (fin_nan (hl.fin i (by omega)).1) (fin_nan (hl.fin (i + 1) h1).1)] at h2
  have := of_decide_eq_true h2
  have := (hl.rise i h1).1
  omega
theorem equalB_self {a : Nat} (h : nanN a = false) : equalB a a = true := by rw [equalB_num h h]; exact decide_eq_true rfl
theorem back_knot {l : List (Nat × Nat)} (hl : COk l) (hv : ¬ Level l) {i : Nat} (hi : i < l.length) : atV (sw l) (ky l i) = kx l i := by
  have n := fin_nan (hl.fin i hi).2
  have := at_same (sw_ok hl hv) (x := ky l i) (i := i) n (by rw [sw_length]; exact hi) (by rw [kx_sw]; exact equalB_self n)
  rw [this, ky_sw]
/-- P4.9: there and back again a sample stays between the same two knots. -/
theorem back_between {l : List (Nat × Nat)} (hl : COk l) (hv : ¬ Level l) {i x : Nat} (hi : i + 1 < l.length) (hn : nanN x = false) (hx : x < 4294967296) (h1 : lessB x (kx l i) = false) (h2 : lessB (kx l (i + 1)) x = false) :
    lessB (atV (sw l) (atV l x)) (kx l i) = false ∧ lessB (kx l (i + 1)) (atV (sw l) (atV l x)) = false := by
  have f0 := hl.fin i (by omega)
  have f1 := hl.fin (i + 1) hi
  have n0 := fin_nan f0.1
  have n1 := fin_nan f1.1
  rw [lessB_num hn n0] at h1
  rw [lessB_num n1 hn] at h2
  have h1 := of_decide_eq_false h1
  have h2 := of_decide_eq_false h2
  have hk := sw_ok hl hv
  have e0 : atV l (kx l i) = ky l i := at_same hl n0 (by omega) (equalB_self n0)
  have e1 : atV l (kx l (i + 1)) = ky l (i + 1) := at_same hl n1 hi (equalB_self n1)
  have m0 := at_mono hl n0 hn (by omega)
  have m1 := at_mono hl hn n1 (by omega)
  rw [e0] at m0
  rw [e1] at m1
  have na := fin_nan (at_range hl hn).1
  have p0 := at_mono hk (fin_nan f0.2) na m0
  have p1 := at_mono hk na (fin_nan f1.2) m1
  rw [back_knot hl hv (by omega)] at p0
  rw [back_knot hl hv hi] at p1
  have nb := fin_nan (at_range hk na).1
  rw [lessB_num nb n0, lessB_num n1 nb]
  exact ⟨decide_eq_false (by omega), decide_eq_false (by omega)⟩

set_option maxHeartbeats 4000000 in
set_option maxRecDepth 100000 in
theorem turned_any (g o cap bt bc : Nat) (l : List (Nat × Nat)) (hl : COk l) (hv : ¬ Level l) (x : Nat) (hx : x < 4294967296) (w : World) (hk : KIs w g o l) (ht : CIs w bt 0 (sw l)) (hc : CIs w bc 0 l) :
    Calls Try.prog 21 #[.slice (some ⟨g, o, none⟩) l.length cap, .pointer (some ⟨bt, 0, none⟩), .pointer (some ⟨bc, 0, none⟩), .int .u32 x] w fun e w' => e = .returned (.bool true) ∧ Q w w' := by
  have HK : Hid (KIs w g o l) := hk
  have HL : Hid (COk l ∧ ¬ Level l) := ⟨hl, hv⟩
  have HT : Hid (CIs w bt 0 (sw l)) := ht
  have HC : Hid (CIs w bc 0 l) := hc
  have t2 := hl.two
  have t64 := hl.many
  clear hk hl hv ht hc
  go_enter Try.func21, Try.ntmps21
  go_wp2_with fail
  go_loopg [9] (l.length - 1) (fun m s9 wr => ∃ n : Nat, s9 = .int .i64 ((n + 1 : Nat) : Int) ∧ n + 1 + m = l.length ∧ Q w wr)
  case atStart => exact ⟨0, rfl, by omega, Q.refl _⟩
  case round =>
    obtain ⟨n, rfl, hm, hqx⟩ := hrel
    by_cases hkn : n + 1 < l.length
    · have c0 := hqx.cell (HK.out n (by omega)).1
      have c1 := hqx.cell (HK.out (n + 1) hkn).1
      obtain ⟨A, hA⟩ : ∃ A, kx l n = A := ⟨_, rfl⟩
      obtain ⟨B, hB⟩ : ∃ B, kx l (n + 1) = B := ⟨_, rfl⟩
      have HAB : Hid (kx l n = A ∧ kx l (n + 1) = B) := ⟨hA, hB⟩
      have hAl : A < 4294967296 := by rw [← hA]; exact (HL.out.1.lt _).1
      have hBl : B < 4294967296 := by rw [← hB]; exact (HL.out.1.lt _).1
      rw [hA] at c0
      rw [hB] at c1
      clear hA hB
      have i0 : (0 : Int) ≤ (n : Int) := by omega
      have i1 : (n : Int) < (l.length : Int) := by omega
      have i2 : (0 : Int) ≤ (n : Int) + 1 := by omega
      have i3 : (n : Int) + 1 < (l.length : Int) := by omega
      go_wp2_with fail
      refine (rnan_any x hx _).mono ?_
      rintro e w1 ⟨rfl, rfl⟩
      cases hn : nanN x
      · go_wp2_with fail
        refine (rbelow_any x A hx hAl _).mono ?_
        rintro e w2 ⟨rfl, rfl⟩
        cases h1 : lessB x A
        · go_wp2_with fail
          refine (rbelow_any B x hBl hx _).mono ?_
          rintro e w3 ⟨rfl, rfl⟩
          cases h2 : lessB B x
          · obtain ⟨z1, z2⟩ := back_between HL.out.1 HL.out.2 hkn hn hx (by rw [HAB.out.1]; exact h1) (by rw [HAB.out.2]; exact h2)
            rw [HAB.out.1] at z1
            rw [HAB.out.2] at z2
            have yl : atV l x < 4294967296 := atV_lt HL.out.1 hx
            have zl : atV (sw l) (atV l x) < 4294967296 := atV_lt (sw_ok HL.out.1 HL.out.2) yl
            have HA1 : Hid (∀ W : World, Q w W → Calls Try.prog 13 #[.pointer (some ⟨bc, 0, none⟩), .int .u32 (x : Int)] W fun e w' => e = .returned (.int .u32 (atV l x : Nat)) ∧ Q W w') := fun W h => at_any bc 0 l HL.out.1 x hx W (HC.out.next h)
            have HA2 : Hid (∀ W : World, Q w W → Calls Try.prog 13 #[.pointer (some ⟨bt, 0, none⟩), .int .u32 (atV l x : Int)] W fun e w' => e = .returned (.int .u32 (atV (sw l) (atV l x) : Nat)) ∧ Q W w') := fun W h => at_any bt 0 (sw l) (sw_ok HL.out.1 HL.out.2) (atV l x) yl W (HT.out.next h)
            generalize atV (sw l) (atV l x) = Z at *
            generalize atV l x = Y at *
            clear hn h1 h2
            go_wp2_with fail
            refine (HA1.out _ hqx).mono ?_
            rintro e w4 ⟨rfl, q4⟩
            replace hqx := hqx.trans q4
            replace c0 := q4.cell c0
            replace c1 := q4.cell c1
            clear q4
            go_wp2_with fail
            refine (HA2.out _ hqx).mono ?_
            rintro e w5 ⟨rfl, q5⟩
            replace hqx := hqx.trans q5
            replace c0 := q5.cell c0
            replace c1 := q5.cell c1
            clear q5 HA1 HA2
            go_wp2_with fail
            refine (rbelow_any Z A zl hAl _).mono ?_
            rintro e w6 ⟨rfl, rfl⟩
            rw [z1]
            go_wp2_with fail
            refine (rbelow_any B Z hBl zl _).mono ?_
            rintro e w7 ⟨rfl, rfl⟩
            rw [z2]
            go_wp2_with fail
            go_roundg (l.length - (n + 2))
            case measure => go_light; omega
            case rel => go_light; exact ⟨n + 1, by go_num, by omega, hqx⟩
          · clear hn h1 h2
            go_wp2_with fail
            go_roundg (l.length - (n + 2))
            case measure => go_light; omega
            case rel => go_light; exact ⟨n + 1, by go_num, by omega, hqx⟩
        · clear hn h1
          go_wp2_with fail
          go_roundg (l.length - (n + 2))
          case measure => go_light; omega
          case rel => go_light; exact ⟨n + 1, by go_num, by omega, hqx⟩
      · clear hn
        go_wp2_with fail
        go_roundg (l.length - (n + 2))
        case measure => go_light; omega
        case rel => go_light; exact ⟨n + 1, by go_num, by omega, hqx⟩
    · have i3 : ¬ ((n : Int) + 1 < (l.length : Int)) := by omega
      go_wp2_with fail
      go_ret
      exact ⟨rfl, hqx⟩
end Go.Proofs.Ytfolecnjaaakeaa
