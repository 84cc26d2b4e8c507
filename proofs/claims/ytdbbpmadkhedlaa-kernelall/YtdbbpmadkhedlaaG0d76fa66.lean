/- Kernels: dividing, adding up, comparing. -/
import Derived.Test.YtdbbpmadkhedlaaG9a9189d5
import Derived.Laws.MakeOwn
import Derived.Deep.QuietTactic
namespace Go.Proofs.Ytdbbpmadkhedlaa
open Go.RowKit
set_option linter.unusedVariables false
set_option linter.unusedSimpArgs false

theorem edrewk (w : World) : ∀ n, Q w (w.drewN n)
  | 0 => Q.refl w
  | n + 1 => (edrewk w n).trans ((Q.refl _).drew)
/-- The sum of the first k. -/
def sumI : List Int → Nat → Int
  | _, 0 => 0
  | l, k + 1 => sumI l k + l.getD k 0
theorem sumI_size (l : List Int) (M : Int) (hM : ∀ i, -M ≤ l.getD i 0 ∧ l.getD i 0 ≤ M) : ∀ k : Nat, -((k : Int) * M) ≤ sumI l k ∧ sumI l k ≤ (k : Int) * M
  | 0 => by simp [sumI]
  | k + 1 => by
    have := sumI_size l M hM k
    have h2 := hM k
    unfold sumI
    rw [show (((k + 1 : Nat) : Int)) * M = (k : Int) * M + M by rw [Int.natCast_add, Int.add_mul]; simp]
    omega
theorem div_down {a b : Int} (hb : 0 < b) : (a.tmod b < 0 → a / b = a.tdiv b - 1 ∧ a % b = a.tmod b + b) ∧ (¬ a.tmod b < 0 → a / b = a.tdiv b ∧ a % b = a.tmod b) := by
  have h1 := Int.tmod_add_tdiv_mul a b
  have h2 : a.tmod b < b := Int.tmod_lt_of_pos a hb
  have h3 : -b < a.tmod b := by
    have := Int.tmod_lt_of_pos (-a) hb
    rw [Int.neg_tmod] at this
    omega
  refine ⟨fun h => ?_, fun h => ?_⟩
  · have := (Int.ediv_emod_unique (a := a) (q := a.tdiv b - 1) (r := a.tmod b + b) hb).2 ⟨by rw [Int.mul_sub, Int.mul_one, Int.mul_comm b]; omega, by omega, by omega⟩
    exact this
  · have := (Int.ediv_emod_unique (a := a) (q := a.tdiv b) (r := a.tmod b) hb).2 ⟨by rw [Int.mul_comm b]; omega, by omega, by omega⟩
    exact this
theorem tdiv_size {a b : Int} (hb : 0 < b) : -a.natAbs ≤ a.tdiv b ∧ a.tdiv b ≤ a.natAbs ∧ -b < a.tmod b ∧ a.tmod b < b := by
  have h2 : a.tmod b < b := Int.tmod_lt_of_pos a hb
  have h3 : -b < a.tmod b := by
    have := Int.tmod_lt_of_pos (-a) hb
    rw [Int.neg_tmod] at this
    omega
  have h4 : (a.tdiv b).natAbs ≤ a.natAbs := by
    rw [Int.natAbs_tdiv]
    exact Nat.div_le_self _ _
  refine ⟨by omega, by omega, h3, h2⟩
set_option maxHeartbeats 1000000 in
set_option maxRecDepth 100000 in
theorem div_any (a b : Int) (w : World) (hb : 0 < b) (h1 : -4611686018427387904 ≤ a) (h2 : a ≤ 4611686018427387904) (h3 : b ≤ 4611686018427387904) :
    Calls Try.prog 48 #[.int .i64 a, .int .i64 b] w fun e w' => e = .returned (.tuple #[.int .i64 (a / b), .int .i64 (a % b)]) ∧ Q w w' := by
  obtain ⟨d1, d2⟩ := div_down (a := a) hb
  obtain ⟨b1, b2, b3, b4⟩ := tdiv_size (a := a) hb
  obtain ⟨q, hq⟩ : ∃ q, a.tdiv b = q := ⟨_, rfl⟩
  obtain ⟨m, hm⟩ : ∃ m, a.tmod b = m := ⟨_, rfl⟩
  rw [hq, hm] at d1 d2
  rw [hq] at b1 b2
  rw [hm] at b3 b4
  have q1 : -4611686018427387904 ≤ q := by omega
  have q2 : q ≤ 4611686018427387904 := by omega
  have hz : ¬ b = 0 := by omega
  have hz' : (b == 0) = false := by simp; omega
  by_cases hm0 : m < 0
  · obtain ⟨e1, e2⟩ := d1 hm0
    rw [e1, e2]
    clear d1 d2 e1 e2 b1 b2
    go_enter Try.func48, Try.ntmps48
    go_wp2_with fail
    go_quiet (fail)
    go_wp2_with fail
    go_ret2
    exact ⟨rfl, edrewk w _⟩
  · obtain ⟨e1, e2⟩ := d2 hm0
    rw [e1, e2]
    clear d1 d2 e1 e2 b1 b2
    go_enter Try.func48, Try.ntmps48
    go_wp2_with fail
    go_quiet (fail)
    go_wp2_with fail
    go_ret2
    exact ⟨rfl, edrewk w _⟩
set_option maxHeartbeats 1000000 in
set_option maxRecDepth 100000 in
theorem total_any (v : Value) (l : List Int) (w : World) (hv : ISl w v l) (hn : l.length ≤ 64) (hM : ∀ i, -72057594037927936 ≤ l.getD i 0 ∧ l.getD i 0 ≤ 72057594037927936) :
    Calls Try.prog 42 #[v] w fun e w' => e = .returned (.int .i64 (sumI l l.length)) ∧ w' = w := by
  obtain ⟨ad, c, rfl⟩ := hv.form
  obtain ⟨N, eN⟩ : ∃ N, l.length = N := ⟨_, rfl⟩
  have HV : Hid (ISl w (.slice ad N c) l ∧ l.length = N) := ⟨by rw [← eN]; exact hv, eN⟩
  have HM : Hid (∀ k, -(k * 72057594037927936) ≤ sumI l k ∧ sumI l k ≤ k * 72057594037927936) := fun k => sumI_size l 72057594037927936 hM k
  rw [eN] at hn ⊢
  clear hv hM eN
  go_enter Try.func42, Try.ntmps42
  go_wp2_with fail
  go_loopg [3, 5, 8] N (fun gh s3 s5 s8 wr => ∃ (i : Nat) (S : Int), s3 = .int .i64 S ∧ s8 = .int .i64 (i : Int) ∧ i ≤ N ∧ gh = N - i ∧ Hid (S = sumI l i) ∧ wr = w)
  case atStart => exact ⟨0, 0, rfl, rfl, Nat.zero_le _, rfl, rfl, rfl⟩
  case round =>
    obtain ⟨i, S, rfl, rfl, hi, rfl, HS, rfl⟩ := hrel
    by_cases hlt : i < N
    · have hltz : (i : Int) < (N : Int) := by omega
      obtain ⟨g1, o1, d1, hs1, hI1⟩ := HV.out.1.some (by have := HV.out.2; omega)
      rw [HV.out.2] at hs1 hI1
      injection hs1 with e1 e2 e3
      subst e1 e3
      have c1 := hI1 i hlt
      obtain ⟨z, hz⟩ : ∃ z, z = l.getD i 0 := ⟨_, rfl⟩
      rw [← hz] at c1
      have HS2 : Hid (S + z = sumI l (i + 1)) := by
        show S + z = sumI l i + l.getD i 0
        rw [HS.out, hz]
      have b1 := HM.out i
      have b2 := HM.out (i + 1)
      rw [← HS.out] at b1
      rw [← HS2.out] at b2
      have b3 : -4611686018427387904 ≤ S := by omega
      have b4 : S ≤ 4611686018427387904 := by omega
      have b5 : -9223372036854775808 ≤ S + z := by omega
      have b6 : S + z ≤ 9223372036854775807 := by omega
      clear hz hI1 e2 b1 b2
      go_wp2_with fail
      go_roundg (N - (i + 1))
      case measure => go_light; omega
      case rel => go_light; exact ⟨i + 1, S + z, rfl, by simp, by omega, rfl, HS2, rfl⟩
    · have hge : ¬ (i : Int) < (N : Int) := by omega
      obtain rfl : i = N := by omega
      go_wp2_with fail
      go_ret
      exact ⟨by rw [← HS.out]; rfl, rfl⟩
def tooB (n : Int) : Bool := decide (n < -1099511627776) || decide (1099511627776 < n)
set_option maxHeartbeats 1000000 in
set_option maxRecDepth 100000 in
theorem too_any (n : Int) (w : World) : Calls Try.prog 41 #[.int .i64 n] w fun e w' => e = .returned (.bool (tooB n)) ∧ w' = w := by
  have HT : Hid (tooB n = (decide (n < -1099511627776) || decide (1099511627776 < n))) := rfl
  rw [HT.out]
  by_cases h1 : n < -1099511627776
  · rw [decide_eq_true h1]
    go_enter Try.func41, Try.ntmps41
    go_wp2_with fail
    go_ret
    exact ⟨by first | rfl | simp, rfl⟩
  · by_cases h2 : 1099511627776 < n
    · rw [decide_eq_false h1, decide_eq_true h2]
      go_enter Try.func41, Try.ntmps41
      go_wp2_with fail
      go_ret
      exact ⟨by first | rfl | simp, rfl⟩
    · rw [decide_eq_false h1, decide_eq_false h2]
      go_enter Try.func41, Try.ntmps41
      go_wp2_with fail
      go_ret
      exact ⟨by first | rfl | simp, rfl⟩
theorem enters_too : ∀ args w, (callFunc 41 args).run Try.prog w = .ok (.enter 41 args) w := fun args w => rfl
/-- Is one of the first k too great? -/
def anyT (l : List Int) : Nat → Bool
  | 0 => false
  | k + 1 => anyT l k || tooB (l.getD k 0)
set_option maxHeartbeats 1000000 in
set_option maxRecDepth 100000 in
theorem idxf_any (v : Value) (l : List Int) (w : World) (hv : ISl w v l) (hn : l.length ≤ 100000) :
    Calls Try.prog 57 #[v, .func (.func 41) #[] #[]] w fun e w' => (∃ k : Int, e = .returned (.int .i64 k) ∧ (decide (0 ≤ k) = anyT l l.length)) ∧ w' = w := by
  obtain ⟨ad, c, rfl⟩ := hv.form
  obtain ⟨N, eN⟩ : ∃ N, l.length = N := ⟨_, rfl⟩
  have HV : Hid (ISl w (.slice ad N c) l ∧ l.length = N) := ⟨by rw [← eN]; exact hv, eN⟩
  rw [eN] at hn ⊢
  clear hv eN
  go_enter Try.func57, Try.ntmps57
  go_wp2_with fail
  go_loopg [5, 8] N (fun gh s5 s8 wr => ∃ (i : Nat), s8 = .int .i64 (i : Int) ∧ i ≤ N ∧ gh = N - i ∧ Hid (anyT l i = false) ∧ wr = w)
  case atStart => exact ⟨0, rfl, Nat.zero_le _, rfl, rfl, rfl⟩
  case round =>
    obtain ⟨i, rfl, hi, rfl, HS, rfl⟩ := hrel
    by_cases hlt : i < N
    · have hltz : (i : Int) < (N : Int) := by omega
      obtain ⟨g1, o1, d1, hs1, hI1⟩ := HV.out.1.some (by have := HV.out.2; omega)
      rw [HV.out.2] at hs1 hI1
      injection hs1 with e1 e2 e3
      subst e1 e3
      have c1 := hI1 i hlt
      obtain ⟨z, hz⟩ : ∃ z, z = l.getD i 0 := ⟨_, rfl⟩
      rw [← hz] at c1
      have HZ : Hid (z = l.getD i 0) := hz
      have C := too_any z wr
      clear hz hI1 e2
      cases ht : tooB z
      · rw [ht] at C
        have HS2 : Hid (anyT l (i + 1) = false) := by show (anyT l i || tooB (l.getD i 0)) = false; rw [HS.out, ← HZ.out, ht]; rfl
        clear ht
        go_wp2_with (refine C.mono ?_; rintro e w' ⟨rfl, rfl⟩)
        go_roundg (N - (i + 1))
        case measure => go_light; omega
        case rel => go_light; exact ⟨i + 1, by simp, by omega, rfl, HS2, rfl⟩
      · rw [ht] at C
        have HS2 : Hid (anyT l N = true) := by
          have : ∀ k, i + 1 ≤ k → anyT l k = true := by
            intro k hk
            induction k with
            | zero => omega
            | succ k ih =>
              show (anyT l k || tooB (l.getD k 0)) = true
              by_cases e : i = k
              · subst e; rw [← HZ.out, ht, Bool.or_true]
              · rw [ih (by omega)]; rfl
          exact this N (by omega)
        clear ht
        go_wp2_with (refine C.mono ?_; rintro e w' ⟨rfl, rfl⟩)
        go_ret
        exact ⟨⟨(i : Int), rfl, by rw [HS2.out]; exact decide_eq_true (by omega)⟩, rfl⟩
    · have hge : ¬ (i : Int) < (N : Int) := by omega
      obtain rfl : i = N := by omega
      go_wp2_with fail
      go_ret
      exact ⟨⟨-1, rfl, by rw [HS.out]; rfl⟩, rfl⟩
set_option maxHeartbeats 1000000 in
set_option maxRecDepth 100000 in
theorem conf_any (v : Value) (l : List Int) (w : World) (hv : ISl w v l) (hn : l.length ≤ 100000) :
    Calls Try.prog 40 #[v, .func (.func 41) #[] #[]] w fun e w' => e = .returned (.bool (anyT l l.length)) ∧ w' = w := by
  have C := idxf_any v l w hv hn
  obtain ⟨ad, c, rfl⟩ := hv.form
  clear hv
  generalize anyT l l.length = B at C ⊢
  generalize l.length = N at C ⊢
  go_enter Try.func40, Try.ntmps40
  go_wp2_with fail
  refine C.mono ?_
  rintro e w' ⟨⟨k, rfl, hk⟩, rfl⟩
  clear C
  have HK : Hid (decide (0 ≤ k) = B) := hk
  clear hk
  go_wp2_with fail
  go_ret
  exact ⟨by rw [← HK.out]; rfl, rfl⟩
set_option maxHeartbeats 1000000 in
set_option maxRecDepth 100000 in
theorem nan_any (x : Int) (w : World) : Calls Try.prog 61 #[.int .i64 x] w fun e w' => e = .returned (.bool false) ∧ w' = w := by
  go_enter Try.func61, Try.ntmps61
  go_wp2_with fail
  go_ret
  exact ⟨by first | rfl | simp, rfl⟩
def cmpK (x y : Int) : Int := if x < y then -1 else if y < x then 1 else 0
set_option maxHeartbeats 1000000 in
set_option maxRecDepth 100000 in
theorem cmp_any (x y : Int) (w : World) : Calls Try.prog 56 #[.int .i64 x, .int .i64 y] w fun e w' => e = .returned (.int .i64 (cmpK x y)) ∧ w' = w := by
  have HT : Hid (cmpK x y = if x < y then -1 else if y < x then 1 else 0) := rfl
  rw [HT.out]
  have C1 := nan_any x w
  have C2 := nan_any y w
  by_cases h1 : x < y
  · rw [if_pos h1]
    go_enter Try.func56, Try.ntmps56
    go_wp2_with (first | (refine C1.mono ?_; rintro e w' ⟨rfl, rfl⟩) | (refine C2.mono ?_; rintro e w' ⟨rfl, rfl⟩))
    go_ret
    exact ⟨rfl, rfl⟩
  · rw [if_neg h1]
    by_cases h2 : y < x
    · rw [if_pos h2]
      go_enter Try.func56, Try.ntmps56
      go_wp2_with (first | (refine C1.mono ?_; rintro e w' ⟨rfl, rfl⟩) | (refine C2.mono ?_; rintro e w' ⟨rfl, rfl⟩))
      go_ret
      exact ⟨rfl, rfl⟩
    · rw [if_neg h2]
      go_enter Try.func56, Try.ntmps56
      go_wp2_with (first | (refine C1.mono ?_; rintro e w' ⟨rfl, rfl⟩) | (refine C2.mono ?_; rintro e w' ⟨rfl, rfl⟩))
      go_ret
      exact ⟨rfl, rfl⟩
end Go.Proofs.Ytdbbpmadkhedlaa
