/- The document's curves: whether knots may be. -/
import Derived.Test.YtfolecnjaaakeaaCRefB
namespace Go.Proofs.Ytfolecnjaaakeaa
open Go.RowKit
set_option linter.unusedVariables false

set_option maxHeartbeats 4000000 in
theorem rcheck_any (g o cap : Nat) (l : List (Nat × Nat)) (h2 : 2 ≤ l.length) (hl : l.length ≤ 64) (hlt : ∀ i, kx l i < 4294967296 ∧ ky l i < 4294967296) (w : World) (hk : KIs w g o l) :
    Calls Try.prog 22 #[.slice (some ⟨g, o, none⟩) l.length cap] w fun e w' => Q w w' ∧ ∃ r, e = .returned (.int .i64 r) ∧ (Bad l r ∨ (Good l ∧ r = 0)) := by
  have b1 : ¬ (l.length : Int) < 2 := by omega
  have b3 : decide ((l.length : Int) < 2) = false := decide_eq_false b1
  have b4 : ¬ (64 : Int) < (l.length : Int) := by omega
  have b5 : decide ((64 : Int) < (l.length : Int)) = false := decide_eq_false b4
  have HK : Hid (KIs w g o l) := hk
  clear hk
  go_enter Try.func22, Try.ntmps22
  go_wp2_with fail
  go_loopg [3] l.length (fun m s3 wr => ∃ k : Nat, s3 = .int .i64 k ∧ k + m = l.length ∧ Hid (finTo l k) ∧ wr = w)
  case atStart => exact ⟨0, rfl, by omega, (fun i h => absurd h (Nat.not_lt_zero _) : finTo l 0), rfl⟩
  case round =>
    obtain ⟨k, rfl, hm, HF, rfl⟩ := hrel
    by_cases hlt' : k < l.length
    · obtain ⟨c1, c2⟩ := HK.out k hlt'
      have hi0 : (0 : Int) ≤ (k : Int) := by omega
      have hi1 : (k : Int) < (l.length : Int) := by omega
      go_wp2_with fail
      refine (rfinite_any (kx l k) (hlt k).1 _).mono ?_
      rintro e w1 ⟨rfl, rfl⟩
      cases f1 : finN (kx l k)
      · have F1 : Hid (finN (kx l k) = false) := f1
        clear f1
        go_wp2_with fail
        go_ret
        exact ⟨Q.refl _, 41, rfl, Or.inl (Or.inr (Or.inl ⟨h2, hl, fun h => (by have := (h k hlt').1; rw [F1.out] at this; cases this), rfl⟩))⟩
      · have F1 : Hid (finN (kx l k) = true) := f1
        clear f1
        go_wp2_with fail
        refine (rfinite_any (ky l k) (hlt k).2 _).mono ?_
        rintro e w1 ⟨rfl, rfl⟩
        cases f2 : finN (ky l k)
        · have F2 : Hid (finN (ky l k) = false) := f2
          clear f2
          go_wp2_with fail
          go_ret
          exact ⟨Q.refl _, 41, rfl, Or.inl (Or.inr (Or.inl ⟨h2, hl, fun h => (by have := (h k hlt').2; rw [F2.out] at this; cases this), rfl⟩))⟩
        · have F2 : Hid (finN (ky l k) = true) := f2
          clear f2
          go_wp2_with fail
          go_roundg (gk - 1)
          case measure => go_light; omega
          case rel => go_light; exact ⟨k + 1, by go_num, by omega, fin_more HF.out F1.out F2.out, rfl⟩
    · have hk : k = l.length := by omega
      have HF2 : Hid (finTo l l.length) := by rw [← hk]; exact HF
      clear hk hm HF
      go_wp2_with fail
      clear hlt'
      go_loopg [4] (l.length - 1) (fun m s4 wr' => ∃ k : Nat, s4 = .int .i64 ((k : Int) + 1) ∧ k + 1 + m = l.length ∧ Hid (riseTo l k) ∧ Q wr wr')
      case atStart => exact ⟨0, rfl, by omega, (fun i h => absurd h (Nat.not_lt_zero _) : riseTo l 0), Q.refl _⟩
      case round =>
        obtain ⟨j, rfl, hm, HR, hq⟩ := hrel
        by_cases hlt' : j + 1 < l.length
        · obtain ⟨c1, c2⟩ := HK.out.next hq j (by omega)
          obtain ⟨c3, c4⟩ := HK.out.next hq (j + 1) hlt'
          have hi0 : (0 : Int) ≤ (j : Int) := by omega
          have hi1 : (j : Int) + 1 < (l.length : Int) := by omega
          have hi2 : (j : Int) < (l.length : Int) := by omega
          have ha := (hlt j).1
          have hb := (hlt (j + 1)).1
          have hc := (hlt j).2
          have hd := (hlt (j + 1)).2
          cases f1 : lessB (kx l j) (kx l (j + 1))
          · go_wp2_with fail
            go_quiet ((go_at_call 44; exact Calls.quiet_of_same (rbelow_any _ _ (by assumption) (by assumption) _)))
            have F1 : Hid (lessB (kx l j) (kx l (j + 1)) = false) := f1
            clear f1
            go_wp2_with fail
            go_ret
            exact ⟨hq.drewN _, 42, rfl, Or.inl (Or.inr (Or.inr ⟨h2, hl, HF2.out, fun h => (by have := (h j (by omega)).1; rw [F1.out] at this; cases this), rfl⟩))⟩
          · go_wp2_with fail
            go_quiet ((go_at_call 44; exact Calls.quiet_of_same (rbelow_any _ _ (by assumption) (by assumption) _)))
            have F1 : Hid (lessB (kx l j) (kx l (j + 1)) = true) := f1
            clear f1
            cases f2 : lessB (ky l (j + 1)) (ky l j)
            · have NR : Hid (riseTo l (j + 1)) := rise_more HR.out F1.out f2
              clear HR F1
              go_wp2_with fail
              clear f2
              go_roundg (l.length - 1 - (j + 1))
              case measure => go_light; omega
              case rel => go_light; exact ⟨j + 1, congrArg (Value.int .i64) (by omega), by omega, NR, hq.drewN _⟩
            · have F2 : Hid (lessB (ky l (j + 1)) (ky l j) = true) := f2
              clear f2
              go_wp2_with fail
              go_ret
              exact ⟨hq.drewN _, 42, rfl, Or.inl (Or.inr (Or.inr ⟨h2, hl, HF2.out, fun h => (by have := (h j (by omega)).2; rw [F2.out] at this; cases this), rfl⟩))⟩
        · have hj : j = l.length - 1 := by omega
          have HR2 : Hid (riseTo l (l.length - 1)) := by rw [← hj]; exact HR
          clear hj
          go_wp2_with fail
          go_ret
          exact ⟨hq, 0, rfl, Or.inr ⟨⟨h2, hl, HF2.out, HR2.out⟩, rfl⟩⟩
end Go.Proofs.Ytfolecnjaaakeaa
