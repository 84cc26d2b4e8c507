/- Searching by halves: what sort.Search returns, and what the closure of a curve's At answers. -/
import Derived.Test.YtfolecnjaaakeaaCodeC
import Derived.Deep.QuietTactic
import Derived.BigQuiet
namespace Go.Proofs.Ytfolecnjaaakeaa
open Go.RowKit

/-- Searching by halves. -/
def bis (p : Nat → Bool) : Nat → Nat → Nat → Nat
  | 0, lo, _ => lo
  | f + 1, lo, hi => if lo < hi then (if p ((lo + hi) / 2) = true then bis p f lo ((lo + hi) / 2) else bis p f ((lo + hi) / 2 + 1) hi) else lo
theorem bis_fuel (p : Nat → Bool) : ∀ (f : Nat) (lo hi : Nat), hi - lo ≤ f → bis p f lo hi = bis p (hi - lo) lo hi := by
  intro f
  induction f using Nat.strongRecOn with
  | _ f ih =>
    intro lo hi h
    cases f with
    | zero => rw [show hi - lo = 0 by omega]
    | succ f =>
      by_cases hlt : lo < hi
      · obtain ⟨d, hd⟩ : ∃ d, hi - lo = d + 1 := ⟨hi - lo - 1, by omega⟩
        rw [hd]
        show (if lo < hi then _ else _) = if lo < hi then _ else _
        rw [if_pos hlt, if_pos hlt]
        rw [ih f (by omega) lo ((lo + hi) / 2) (by omega), ih f (by omega) ((lo + hi) / 2 + 1) hi (by omega)]
        by_cases hdf : d = f
        · rw [hdf, ih f (by omega) lo ((lo + hi) / 2) (by omega), ih f (by omega) ((lo + hi) / 2 + 1) hi (by omega)]
        · rw [ih d (by omega) lo ((lo + hi) / 2) (by omega), ih d (by omega) ((lo + hi) / 2 + 1) hi (by omega)]
      · rw [show hi - lo = 0 by omega]
        show (if lo < hi then _ else lo) = lo
        rw [if_neg hlt]
theorem bis_yes {p : Nat → Bool} {lo hi : Nat} (h : lo < hi) (hp : p ((lo + hi) / 2) = true) : bis p (hi - lo) lo hi = bis p ((lo + hi) / 2 - lo) lo ((lo + hi) / 2) := by
  obtain ⟨d, hd⟩ : ∃ d, hi - lo = d + 1 := ⟨hi - lo - 1, by omega⟩
  rw [hd]
  show (if lo < hi then _ else _) = _
  rw [if_pos h, if_pos hp, bis_fuel p d _ _ (by omega)]
theorem bis_no {p : Nat → Bool} {lo hi : Nat} (h : lo < hi) (hp : p ((lo + hi) / 2) = false) : bis p (hi - lo) lo hi = bis p (hi - ((lo + hi) / 2 + 1)) ((lo + hi) / 2 + 1) hi := by
  obtain ⟨d, hd⟩ : ∃ d, hi - lo = d + 1 := ⟨hi - lo - 1, by omega⟩
  rw [hd]
  show (if lo < hi then _ else _) = _
  rw [if_pos h, if_neg (by rw [hp]; decide), bis_fuel p d _ _ (by omega)]
theorem bis_end {p : Nat → Bool} {lo : Nat} : bis p (lo - lo) lo lo = lo := by rw [Nat.sub_self]; rfl
/-- What it comes to: a place from lo to hi; it says yes there (or it is hi), and no right ahead of it (or it is lo). -/
theorem bis_facts (p : Nat → Bool) : ∀ (d lo hi : Nat), hi - lo = d → lo ≤ hi → lo ≤ bis p (hi - lo) lo hi ∧ bis p (hi - lo) lo hi ≤ hi ∧ (bis p (hi - lo) lo hi = hi ∨ p (bis p (hi - lo) lo hi) = true) ∧ (bis p (hi - lo) lo hi = lo ∨ p (bis p (hi - lo) lo hi - 1) = false) := by
  intro d
  induction d using Nat.strongRecOn with
  | _ d ih =>
    intro lo hi hd hle
    by_cases hlt : lo < hi
    · cases hp : p ((lo + hi) / 2)
      · rw [bis_no hlt hp]
        obtain ⟨a, b, c, e⟩ := ih (hi - ((lo + hi) / 2 + 1)) (by omega) ((lo + hi) / 2 + 1) hi rfl (by omega)
        refine ⟨by omega, b, c, ?_⟩
        rcases e with e | e
        · right; rw [e]; exact hp
        · right; exact e
      · rw [bis_yes hlt hp]
        obtain ⟨a, b, c, e⟩ := ih ((lo + hi) / 2 - lo) (by omega) lo ((lo + hi) / 2) rfl (by omega)
        refine ⟨a, by omega, ?_, e⟩
        rcases c with c | c
        · right; rw [c]; exact hp
        · right; exact c
    · obtain rfl : hi = lo := by omega
      rw [bis_end]
      exact ⟨Nat.le_refl _, Nat.le_refl _, Or.inl rfl, Or.inl rfl⟩

set_option maxHeartbeats 4000000 in
set_option maxRecDepth 1000000 in
theorem search_any (g : Nat) (cb : Array Value) (n : Nat) (p : Nat → Bool) (w : World) (eg : ∀ args w, (callFunc g args).run Try.prog w = .ok (.enter g args) w) (hsz : n < 4611686018427387904)
    (hf : ∀ (w' : World) (i : Nat), Q w w' → i < n → Calls Try.prog g (#[.int .i64 i] ++ cb) w' fun e w'' => e = .returned (.bool (p i)) ∧ Q w' w'') :
    Calls Try.prog 38 #[.int .i64 n, .func (.func g) #[] cb] w fun e w' => e = .returned (.int .i64 (bis p n 0 n : Nat)) ∧ Q w w' := by
  have HF : Hid _ := hf
  clear hf
  obtain ⟨R, hR⟩ : ∃ R, R = bis p n 0 n := ⟨_, rfl⟩
  rw [← hR]
  have HR : Hid (bis p (n - 0) 0 n = R) := hR.symm
  clear hR
  go_enter Try.func38, Try.ntmps38
  go_wp2
  go_loopg [5, 6] n (fun kx s5 s6 wr => ∃ (lo hi : Nat), s5 = .int .i64 lo ∧ s6 = .int .i64 hi ∧ lo ≤ hi ∧ hi ≤ n ∧ hi - lo ≤ kx ∧ Q w wr ∧ Hid (bis p (hi - lo) lo hi = R))
  case atStart => exact ⟨0, n, rfl, rfl, Nat.zero_le _, Nat.le_refl _, by omega, Q.refl _, HR⟩
  case round =>
    obtain ⟨lo, hi, rfl, rfl, hlh, hin, hg, hq, I⟩ := hrel
    by_cases hlt : lo < hi
    · have hc := HF.out wr ((lo + hi) / 2) hq (by omega)
      rw [show (((lo + hi) / 2 : Nat) : Int) = ((lo : Int) + (hi : Int)) / 2 by omega] at hc
      cases hp : p ((lo + hi) / 2) <;> rw [hp] at hc
      · have I2 : Hid (bis p (hi - ((lo + hi) / 2 + 1)) ((lo + hi) / 2 + 1) hi = R) := (bis_no hlt hp).symm.trans I.out
        clear hp
        go_wp2_with (refine hc.mono ?_; rintro e w' ⟨rfl, q2⟩)
        go_roundg (hi - ((lo + hi) / 2 + 1))
        case measure => omega
        case rel =>
          exact ⟨(lo + hi) / 2 + 1, hi, by rw [show ((lo : Int) + (hi : Int)) / 2 + 1 = (((lo + hi) / 2 + 1 : Nat) : Int) by omega], rfl, by omega, hin, Nat.le_refl _, hq.trans q2, I2⟩
      · have I2 : Hid (bis p ((lo + hi) / 2 - lo) lo ((lo + hi) / 2) = R) := (bis_yes hlt hp).symm.trans I.out
        clear hp
        go_wp2_with (refine hc.mono ?_; rintro e w' ⟨rfl, q2⟩)
        go_roundg ((lo + hi) / 2 - lo)
        case measure => omega
        case rel =>
          exact ⟨lo, (lo + hi) / 2, rfl, by rw [show ((lo : Int) + (hi : Int)) / 2 = (((lo + hi) / 2 : Nat) : Int) by omega], by omega, by omega, Nat.le_refl _, hq.trans q2, I2⟩
    · obtain rfl : hi = lo := by omega
      have e1 : R = hi := I.out.symm.trans bis_end
      subst e1
      go_wp2
      go_ret
      exact ⟨rfl, hq⟩
end Go.Proofs.Ytfolecnjaaakeaa
