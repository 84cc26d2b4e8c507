/- What the reference's IsNaN, key, Less, Equal, Least and Greatest return of whatever samples. -/
import Derived.Test.YtgpkcclapkdndaaRefA
namespace Go.Proofs.Ytgpkcclapkdndaa
open Go.RowKit

theorem nanN_cases (b : Nat) : (numOf Ieee.single b = .nan ∧ nanN b = true) ∨ ((∃ s, numOf Ieee.single b = .inf s) ∧ nanN b = false) ∨ ((∃ s n e, numOf Ieee.single b = .fin s n e false) ∧ nanN b = false) := by
  unfold nanN
  by_cases h1 : b / 8388608 % 256 = 255
  · by_cases h2 : b % 8388608 = 0
    · exact Or.inr (Or.inl ⟨⟨_, numOf_inf h1 h2⟩, decide_eq_false (by omega)⟩)
    · exact Or.inl ⟨numOf_nan h1 h2, decide_eq_true (by omega)⟩
  · by_cases h3 : b / 8388608 % 256 = 0
    · exact Or.inr (Or.inr ⟨⟨_, _, _, numOf_small h3⟩, decide_eq_false (by omega)⟩)
    · exact Or.inr (Or.inr ⟨⟨_, _, _, numOf_norm h3 h1⟩, decide_eq_false (by omega)⟩)

theorem field_kind (k : Int) (s : Bool) (p : Option Addr) (L C : Nat) (e : Int) (m : Bool) (w : World) :
    Sem.run Try.prog (Instr.field 46 (.agg #[.int .i64 k, .bool s, .slice p L C, .int .i64 e, .bool m]) 0) w = .ok (.int .i64 k) w := by kernel_rfl

set_option maxHeartbeats 1000000 in
theorem risnan_any (a : Nat) (w : World) (ha : a < 4294967296) :
    Calls Try.prog 58 #[.int .u32 a] w fun e w' => e = .returned (.bool (nanN a)) ∧ Q w w' := by
  rcases nanN_cases a with ⟨hn, hb⟩ | ⟨⟨s, hn⟩, hb⟩ | ⟨⟨s, n, e, hn⟩, hb⟩
  all_goals
    rw [hb]
    have HN : Hid _ := hn
    clear hn hb
    have hfk := field_kind
    go_enter Try.func58, Try.ntmps58
    go_wp2_with fail
    refine (num_any a _ ha).mono ?_
    rintro x w1 ⟨v1, rfl, hv1, q1⟩
    rw [HN.out] at hv1
  · obtain ⟨b, ee, m, rfl⟩ := hv1
    go_wp2_with fail
    go_ret
    exact ⟨rfl, q1⟩
  · obtain ⟨ee, m, rfl⟩ := hv1
    go_wp2_with fail
    go_ret
    exact ⟨rfl, q1⟩
  · obtain ⟨nv, rfl, p, bb, L, C, rfl, hI⟩ := hv1
    go_wp2_with fail
    go_ret
    exact ⟨rfl, q1⟩

/-- Rises with the value. -/
def keyR (a : Nat) : Int := if a < 2147483648 then (a : Int) else -((a - 2147483648 : Nat) : Int)
set_option maxHeartbeats 1000000 in
theorem rkey_any (a : Nat) (w : World) (ha : a < 4294967296) :
    Calls Try.prog 59 #[.int .u32 a] w fun e w' => e = .returned (.int .i64 (keyR a)) ∧ w' = w := by
  by_cases h : a < 2147483648
  · have e1 : ((a : Int) / 2147483648 == 1) = false := by simp; omega
    have ek : keyR a = (a : Int) := by unfold keyR; rw [if_pos h]
    rw [ek]
    clear ek
    go_enter Try.func59, Try.ntmps59
    go_wp2
    go_ret
    exact ⟨rfl, rfl⟩
  · have e1 : ((a : Int) / 2147483648 == 1) = true := by simp; omega
    obtain ⟨r, hr⟩ : ∃ r : Nat, r = a - 2147483648 := ⟨_, rfl⟩
    have ek : keyR a = -(r : Int) := by unfold keyR; rw [if_neg h, hr]
    have e2 : bits .and .u32 (a : Int) 2147483647 = (r : Int) := by
      have : bits .and .u32 (a : Int) 2147483647 = (a : Int) % 2147483648 := by go_bits2
      rw [this]; omega
    have hrb : r < 2147483648 := by omega
    rw [ek]
    clear ek hr
    go_enter Try.func59, Try.ntmps59
    go_wp2
    go_ret
    exact ⟨rfl, rfl⟩

set_option maxHeartbeats 2000000 in
theorem rless_any (a b : Nat) (w : World) (ha : a < 4294967296) (hb : b < 4294967296) :
    Calls Try.prog 27 #[.int .u32 a, .int .u32 b] w fun e w' => e = .returned (.bool (!nanN a && (!nanN b && decide (keyR a < keyR b)))) ∧ Q w w' := by
  cases hna : nanN a
  · cases hnb : nanN b
    · go_enter Try.func27, Try.ntmps27
      go_wp2_with fail
      refine (risnan_any a _ ha).mono ?_
      rintro x w1 ⟨rfl, q1⟩
      go_wp2_with fail
      refine (risnan_any b _ hb).mono ?_
      rintro x w2 ⟨rfl, q2⟩
      go_wp2_with fail
      refine (rkey_any a _ ha).mono ?_
      rintro x w3 ⟨rfl, rfl⟩
      go_wp2_with fail
      refine (rkey_any b _ hb).mono ?_
      rintro x w3 ⟨rfl, rfl⟩
      go_wp2_with fail
      go_ret
      exact ⟨ret_bool (by simp), q1.trans q2⟩
    · go_enter Try.func27, Try.ntmps27
      go_wp2_with fail
      refine (risnan_any a _ ha).mono ?_
      rintro x w1 ⟨rfl, q1⟩
      go_wp2_with fail
      refine (risnan_any b _ hb).mono ?_
      rintro x w2 ⟨rfl, q2⟩
      go_wp2_with fail
      go_ret
      exact ⟨ret_bool (by simp), q1.trans q2⟩
  · go_enter Try.func27, Try.ntmps27
    go_wp2_with fail
    refine (risnan_any a _ ha).mono ?_
    rintro x w1 ⟨rfl, q1⟩
    go_wp2_with fail
    go_ret
    exact ⟨ret_bool (by simp), q1⟩

set_option maxHeartbeats 2000000 in
theorem requal_any (a b : Nat) (w : World) (ha : a < 4294967296) (hb : b < 4294967296) :
    Calls Try.prog 29 #[.int .u32 a, .int .u32 b] w fun e w' => e = .returned (.bool (!nanN a && (!nanN b && (keyR a == keyR b)))) ∧ Q w w' := by
  cases hna : nanN a
  · cases hnb : nanN b
    · go_enter Try.func29, Try.ntmps29
      go_wp2_with fail
      refine (risnan_any a _ ha).mono ?_
      rintro x w1 ⟨rfl, q1⟩
      go_wp2_with fail
      refine (risnan_any b _ hb).mono ?_
      rintro x w2 ⟨rfl, q2⟩
      go_wp2_with fail
      refine (rkey_any a _ ha).mono ?_
      rintro x w3 ⟨rfl, rfl⟩
      go_wp2_with fail
      refine (rkey_any b _ hb).mono ?_
      rintro x w3 ⟨rfl, rfl⟩
      go_wp2_with fail
      go_ret
      exact ⟨ret_bool (by simp), q1.trans q2⟩
    · go_enter Try.func29, Try.ntmps29
      go_wp2_with fail
      refine (risnan_any a _ ha).mono ?_
      rintro x w1 ⟨rfl, q1⟩
      go_wp2_with fail
      refine (risnan_any b _ hb).mono ?_
      rintro x w2 ⟨rfl, q2⟩
      go_wp2_with fail
      go_ret
      exact ⟨ret_bool (by simp), q1.trans q2⟩
  · go_enter Try.func29, Try.ntmps29
    go_wp2_with fail
    refine (risnan_any a _ ha).mono ?_
    rintro x w1 ⟨rfl, q1⟩
    go_wp2_with fail
    go_ret
    exact ⟨ret_bool (by simp), q1⟩
def leastR (a b : Nat) : Nat := if keyR a < keyR b ∨ (keyR a = keyR b ∧ 2147483648 ≤ a) then a else b
set_option maxHeartbeats 2000000 in
theorem rleast_any (a b : Nat) (w : World) (ha : a < 4294967296) (hb : b < 4294967296) :
    Calls Try.prog 31 #[.int .u32 a, .int .u32 b] w fun e w' => e = .returned (.int .u32 ((if nanN a = true ∨ nanN b = true then 2143289344 else leastR a b : Nat) : Int)) ∧ Q w w' := by
  cases hna : nanN a
  · cases hnb : nanN b
    · obtain ⟨R, hR⟩ : ∃ R : Nat, R = leastR a b := ⟨_, rfl⟩
      rw [if_neg (by simp), ← hR]
      obtain ⟨ka, hka⟩ : ∃ ka, ka = keyR a := ⟨_, rfl⟩
      obtain ⟨kb, hkb⟩ : ∃ kb, kb = keyR b := ⟨_, rfl⟩
      have hcase : (ka < kb ∧ Hid (R = a)) ∨ (¬ ka < kb ∧ decide (ka < kb) = false ∧ (ka == kb) = true ∧ ((a : Int) / 2147483648 == 1) = true ∧ Hid (R = a)) ∨ (¬ ka < kb ∧ decide (ka < kb) = false ∧ (ka == kb) = true ∧ ((a : Int) / 2147483648 == 1) = false ∧ Hid (R = b)) ∨ (¬ ka < kb ∧ decide (ka < kb) = false ∧ (ka == kb) = false ∧ Hid (R = b)) := by
        unfold leastR at hR
        rw [← hka, ← hkb] at hR
        by_cases h1 : ka < kb
        · exact Or.inl ⟨h1, by rw [if_pos (Or.inl h1)] at hR; exact hR⟩
        · by_cases h2 : ka = kb
          · by_cases h3 : 2147483648 ≤ a
            · refine Or.inr (Or.inl ⟨h1, decide_eq_false h1, by simp [h2], by simp; omega, ?_⟩)
              rw [if_pos (Or.inr ⟨h2, h3⟩)] at hR; exact hR
            · refine Or.inr (Or.inr (Or.inl ⟨h1, decide_eq_false h1, by simp [h2], by simp; omega, ?_⟩))
              rw [if_neg (fun c => by rcases c with c | c <;> omega)] at hR; exact hR
          · refine Or.inr (Or.inr (Or.inr ⟨h1, decide_eq_false h1, by simp [h2], ?_⟩))
            rw [if_neg (fun c => by rcases c with c | c <;> omega)] at hR; exact hR
      have HA : Hid _ := hka
      have HB : Hid _ := hkb
      have HC : Hid _ := hcase
      clear hR hka hkb hcase
      go_enter Try.func31, Try.ntmps31
      go_wp2_with fail
      refine (risnan_any a _ ha).mono ?_
      rintro x w1 ⟨rfl, q1⟩
      rw [hna]
      go_wp2_with fail
      refine (risnan_any b _ hb).mono ?_
      rintro x w2 ⟨rfl, q2⟩
      rw [hnb]
      go_wp2_with fail
      refine (rkey_any a _ ha).mono ?_
      rintro x w3 ⟨rfl, rfl⟩
      rw [← HA.out]
      go_wp2_with fail
      refine (rkey_any b _ hb).mono ?_
      rintro x w3 ⟨rfl, rfl⟩
      rw [← HB.out]
      rcases HC.out with ⟨h1, h2⟩ | ⟨h1, h1b, h2, h3, h4⟩ | ⟨h1, h1b, h2, h3, h4⟩ | ⟨h1, h1b, h2, h4⟩
      · go_wp2_with fail
        go_ret
        exact ⟨ret_int (by rw [h2.out]), q1.trans q2⟩
      all_goals
        go_wp2_with fail
        refine (rkey_any a _ ha).mono ?_
        rintro x w3 ⟨rfl, rfl⟩
        rw [← HA.out]
        go_wp2_with fail
        refine (rkey_any b _ hb).mono ?_
        rintro x w3 ⟨rfl, rfl⟩
        rw [← HB.out]
        go_wp2_with fail
        go_ret
        exact ⟨ret_int (by rw [h4.out]), q1.trans q2⟩
    · rw [if_pos (Or.inr rfl)]
      go_enter Try.func31, Try.ntmps31
      go_wp2_with fail
      refine (risnan_any a _ ha).mono ?_
      rintro x w1 ⟨rfl, q1⟩
      rw [hna]
      go_wp2_with fail
      refine (risnan_any b _ hb).mono ?_
      rintro x w2 ⟨rfl, q2⟩
      rw [hnb]
      go_wp2_with fail
      go_ret
      exact ⟨rfl, q1.trans q2⟩
  · rw [if_pos (Or.inl rfl)]
    go_enter Try.func31, Try.ntmps31
    go_wp2_with fail
    refine (risnan_any a _ ha).mono ?_
    rintro x w1 ⟨rfl, q1⟩
    rw [hna]
    go_wp2_with fail
    go_ret
    exact ⟨rfl, q1⟩

def greatestR (a b : Nat) : Nat := if keyR b < keyR a ∨ (keyR a = keyR b ∧ a < 2147483648) then a else b
set_option maxHeartbeats 2000000 in
theorem rgreatest_any (a b : Nat) (w : World) (ha : a < 4294967296) (hb : b < 4294967296) :
    Calls Try.prog 33 #[.int .u32 a, .int .u32 b] w fun e w' => e = .returned (.int .u32 ((if nanN a = true ∨ nanN b = true then 2143289344 else greatestR a b : Nat) : Int)) ∧ Q w w' := by
  cases hna : nanN a
  · cases hnb : nanN b
    · obtain ⟨R, hR⟩ : ∃ R : Nat, R = greatestR a b := ⟨_, rfl⟩
      rw [if_neg (by simp), ← hR]
      obtain ⟨ka, hka⟩ : ∃ ka, ka = keyR a := ⟨_, rfl⟩
      obtain ⟨kb, hkb⟩ : ∃ kb, kb = keyR b := ⟨_, rfl⟩
      have hcase : (kb < ka ∧ Hid (R = a)) ∨ (¬ kb < ka ∧ decide (kb < ka) = false ∧ (ka == kb) = true ∧ ((a : Int) / 2147483648 == 0) = true ∧ Hid (R = a)) ∨ (¬ kb < ka ∧ decide (kb < ka) = false ∧ (ka == kb) = true ∧ ((a : Int) / 2147483648 == 0) = false ∧ Hid (R = b)) ∨ (¬ kb < ka ∧ decide (kb < ka) = false ∧ (ka == kb) = false ∧ Hid (R = b)) := by
        unfold greatestR at hR
        rw [← hka, ← hkb] at hR
        by_cases h1 : kb < ka
        · exact Or.inl ⟨h1, by rw [if_pos (Or.inl h1)] at hR; exact hR⟩
        · by_cases h2 : ka = kb
          · by_cases h3 : a < 2147483648
            · refine Or.inr (Or.inl ⟨h1, decide_eq_false h1, by simp [h2], by simp; omega, ?_⟩)
              rw [if_pos (Or.inr ⟨h2, h3⟩)] at hR; exact hR
            · refine Or.inr (Or.inr (Or.inl ⟨h1, decide_eq_false h1, by simp [h2], by simp; omega, ?_⟩))
              rw [if_neg (fun c => by rcases c with c | c <;> omega)] at hR; exact hR
          · refine Or.inr (Or.inr (Or.inr ⟨h1, decide_eq_false h1, by simp [h2], ?_⟩))
            rw [if_neg (fun c => by rcases c with c | c <;> omega)] at hR; exact hR
      have HA : Hid _ := hka
      have HB : Hid _ := hkb
      have HC : Hid _ := hcase
      clear hR hka hkb hcase
      go_enter Try.func33, Try.ntmps33
      go_wp2_with fail
      refine (risnan_any a _ ha).mono ?_
      rintro x w1 ⟨rfl, q1⟩
      rw [hna]
      go_wp2_with fail
      refine (risnan_any b _ hb).mono ?_
      rintro x w2 ⟨rfl, q2⟩
      rw [hnb]
      go_wp2_with fail
      refine (rkey_any a _ ha).mono ?_
      rintro x w3 ⟨rfl, rfl⟩
      rw [← HA.out]
      go_wp2_with fail
      refine (rkey_any b _ hb).mono ?_
      rintro x w3 ⟨rfl, rfl⟩
      rw [← HB.out]
      rcases HC.out with ⟨h1, h2⟩ | ⟨h1, h1b, h2, h3, h4⟩ | ⟨h1, h1b, h2, h3, h4⟩ | ⟨h1, h1b, h2, h4⟩
      · go_wp2_with fail
        go_ret
        exact ⟨ret_int (by rw [h2.out]), q1.trans q2⟩
      all_goals
        go_wp2_with fail
        refine (rkey_any a _ ha).mono ?_
        rintro x w3 ⟨rfl, rfl⟩
        rw [← HA.out]
        go_wp2_with fail
        refine (rkey_any b _ hb).mono ?_
        rintro x w3 ⟨rfl, rfl⟩
        rw [← HB.out]
        go_wp2_with fail
        go_ret
        exact ⟨ret_int (by rw [h4.out]), q1.trans q2⟩
    · rw [if_pos (Or.inr rfl)]
      go_enter Try.func33, Try.ntmps33
      go_wp2_with fail
      refine (risnan_any a _ ha).mono ?_
      rintro x w1 ⟨rfl, q1⟩
      rw [hna]
      go_wp2_with fail
      refine (risnan_any b _ hb).mono ?_
      rintro x w2 ⟨rfl, q2⟩
      rw [hnb]
      go_wp2_with fail
      go_ret
      exact ⟨rfl, q1.trans q2⟩
  · rw [if_pos (Or.inl rfl)]
    go_enter Try.func33, Try.ntmps33
    go_wp2_with fail
    refine (risnan_any a _ ha).mono ?_
    rintro x w1 ⟨rfl, q1⟩
    rw [hna]
    go_wp2_with fail
    go_ret
    exact ⟨rfl, q1⟩
end Go.Proofs.Ytgpkcclapkdndaa
