/- Where a curve comes to something first. -/
import Derived.Test.YtmfniimelibhfaaG3b2385e9
import Derived.Deep.RegionWith
namespace Go.Proofs.Ytmfniimelibhfaa
open Go.RowKit

def keyN (s : Nat) : Nat := if s < 2147483648 then s + 2147483648 else 4294967295 - s
def fkeyN (k : Nat) : Nat := if 2147483648 ≤ k then k - 2147483648 else 4294967295 - k
theorem keyN_lt {s : Nat} (h : s < 4294967296) : keyN s < 4294967296 := by unfold keyN; split <;> omega
theorem fkeyN_lt {s : Nat} (h : s < 4294967296) : fkeyN s < 4294967296 := by unfold fkeyN; split <;> omega
theorem keyV_N {s : Nat} (h : s < 4294967296) : keyV (s : Int) = (keyN s : Int) := by
  unfold keyN
  by_cases g : s < 2147483648
  · rw [keyV_lo (by omega), if_pos g]; omega
  · rw [keyV_hi (by omega), if_neg g]; omega
theorem keyN_inj {a b : Nat} (ha : a < 4294967296) (hb : b < 4294967296) (h : keyN a = keyN b) : a = b := by
  unfold keyN at h; split at h <;> split at h <;> omega
theorem fkey_key {s : Nat} (h : s < 4294967296) : fkeyN (keyN s) = s := by
  unfold keyN fkeyN; split <;> split <;> omega
theorem key_fkey {k : Nat} (h : k < 4294967296) : keyN (fkeyN k) = k := by
  unfold keyN fkeyN; split <;> split <;> omega

theorem not_hi (k : Int) (h0 : 2147483648 ≤ k) (h1 : k ≤ 4294967295) : bits .andNot .u32 k 2147483648 = k - 2147483648 := by go_bits2
set_option maxHeartbeats 400000 in
theorem fromkey_any (k : Nat) (h1 : k < 4294967296) (w : World) :
    Calls Try.prog 62 #[.int .u32 k] w fun e w' => e = .returned (.int .u32 (fkeyN k : Nat)) ∧ w' = w := by
  by_cases h : k < 2147483648
  · have e1 := and_lo k (by omega) (by omega)
    go_enter Try.func62, Try.ntmps62
    go_wp2
    go_ret
    exact ⟨ret_int (by unfold fkeyN; rw [if_neg (by omega)]; omega), rfl⟩
  · have e1 := and_hi k (by omega) (by omega)
    have e2 := not_hi k (by omega) (by omega)
    go_enter Try.func62, Try.ntmps62
    go_wp2
    go_ret
    exact ⟨ret_int (by unfold fkeyN; rw [if_pos (by omega)]; omega), rfl⟩
set_option maxHeartbeats 400000 in
theorem keyn_any (s : Nat) (h1 : s < 4294967296) (w : World) :
    Calls Try.prog 63 #[.int .u32 s] w fun e w' => e = .returned (.int .u32 (keyN s : Nat)) ∧ w' = w := by
  have := key_any s (by omega) (by omega) w
  rw [keyV_N h1] at this
  exact this
set_option maxHeartbeats 400000 in
theorem apart_any (a b : Nat) (ha : a < 4294967296) (hb : b < 4294967296) (w : World) :
    Calls Try.prog 64 #[.int .u32 a, .int .u32 b] w fun e w' => e = .returned (.int .i64 ((keyN b : Int) - (keyN a : Int))) ∧ w' = w := by
  have b1 := keyN_lt ha
  have b2 := keyN_lt hb
  go_enter Try.func64, Try.ntmps64
  go_wp2_with fail
  refine (keyn_any b hb _).mono ?_
  rintro e w1 ⟨rfl, rfl⟩
  go_wp2_with fail
  refine (keyn_any a ha _).mono ?_
  rintro e w1 ⟨rfl, rfl⟩
  go_wp2_with fail
  go_ret
  exact ⟨rfl, rfl⟩
theorem befN_any (a b : Nat) (ha : a < 4294967296) (hb : b < 4294967296) (w : World) :
    Calls Try.prog 66 #[.int .u32 a, .int .u32 b] w fun e w' => e = .returned (.bool (decide (keyN a < keyN b))) ∧ w' = w := by
  have := before_any a b (by omega) (by omega) (by omega) (by omega) w
  unfold befB at this
  rw [keyV_N ha, keyV_N hb] at this
  simpa using this

/-- Is it, at x, not below y? -/
def comesB (f : Nat → Nat) (x y : Nat) : Bool := lessB y (f x) || equalB y (f x)
/-- A curve, as it is asked. -/
def ifc (b o : Nat) : Value := .iface 25 (.pointer (some ⟨b, o, none⟩))
set_option maxHeartbeats 1000000 in
theorem comes_any (b o : Nat) (l : List (Nat × Nat)) (hl : COk l) (x y : Nat) (hx : x < 4294967296) (w : World) (hc : CIs w b o l) :
    Calls Try.prog 60 #[.iface 25 (.pointer (some ⟨b, o, none⟩)), .int .u32 x, .int .u32 y] w fun e w' => e = .returned (.bool (comesB (atV l) x y)) ∧ Q w w' := by
  have hm : ∀ w : World, (method 220 25 (.pointer (some ⟨b, o, none⟩)) "At").run Try.prog w = .ok (13, .pointer (some ⟨b, o, none⟩)) w := fun _ => by kernel_rfl
  go_enter Try.func60, Try.ntmps60
  go_wp2_with fail
  refine (at_any b o l hl x hx _ hc).mono ?_
  rintro e w1 ⟨rfl, q1⟩
  go_wp2_with fail
  refine (less_any y (atV l x) _).mono ?_
  rintro e w2 ⟨rfl, rfl⟩
  cases h1 : lessB y (atV l x)
  · have H1 : Hid (lessB y (atV l x) = false) := h1
    clear h1
    go_wp2_with fail
    refine (equal_any y (atV l x) _).mono ?_
    rintro e w2 ⟨rfl, rfl⟩
    go_wp2_with fail
    go_ret
    exact ⟨ret_bool (by unfold comesB; rw [H1.out]; rfl), q1⟩
  · have H1 : Hid (lessB y (atV l x) = true) := h1
    clear h1
    go_wp2_with fail
    go_ret
    exact ⟨ret_bool (by unfold comesB; rw [H1.out]; rfl), q1⟩

set_option maxHeartbeats 1000000 in
theorem ends_any (b o : Nat) (l : List (Nat × Nat)) (hl : COk l) (w : World) (hc : CIs w b o l) :
    Calls Try.prog 89 #[.pointer (some ⟨b, o, none⟩)] w fun e w' => e = .returned (.tuple #[.int .u32 (kx l 0), .int .u32 (kx l (l.length - 1))]) ∧ Q w w' := by
  obtain ⟨g, o', cap, hc1, hcap, hk⟩ := hc.it
  have h2 := hl.two
  have h3 := hl.many
  obtain ⟨n, hn⟩ : ∃ n, l.length = n + 1 := ⟨l.length - 1, by omega⟩
  have c1 := (hk 0 (by omega)).1
  have c2 := (hk n (by omega)).1
  rw [Nat.zero_mul, Nat.add_zero] at c1
  rw [show l.length - 1 = n by omega]
  rw [hn] at hc1 hcap h2 h3
  have hz : (((n + 1 : Nat) : Int) == 0) = false := by simp; omega
  have b1 : (0 : Int) < ((n + 1 : Nat) : Int) := by omega
  have b2 : (n : Int) < ((n + 1 : Nat) : Int) := by omega
  have b3 : ((n + 1 : Nat) : Int) - 1 = (n : Int) := by omega
  have b4 : (0 : Int) ≤ (n : Int) := by omega
  clear hk hc hl hn
  go_enter Try.func89, Try.ntmps89
  go_wp2_with fail
  go_quiet (fail)
  go_wp2_with fail
  go_ret2
  exact ⟨rfl, (Q.refl _).drewN _⟩

/-- The n-th place from a sample on, by key. -/
def placeN (first n : Nat) : Nat := fkeyN (keyN first + n)
set_option maxHeartbeats 1000000 in
theorem place_any (bf first n : Nat) (hf : first < 4294967296) (hn : keyN first + n < 4294967296) (w : World) (hc : w.cell? ⟨bf, 0, none⟩ = some (.int .u32 first)) :
    Calls Try.prog 61 (#[.int .i64 n] ++ #[.pointer (some ⟨bf, 0, none⟩)]) w fun e w' => e = .returned (.int .u32 (placeN first n : Nat)) ∧ w' = w := by
  have b1 := keyN_lt hf
  have b2 : (n : Int) < 4294967296 := by omega
  have b3 : (keyN first : Int) + (n : Int) < 4294967296 := by omega
  have e1 : ((keyN first + n : Nat) : Int) = (keyN first : Int) + (n : Int) := by omega
  have HE : Hid (((keyN first + n : Nat) : Int) = (keyN first : Int) + (n : Int)) := e1
  clear e1
  go_enter Try.func61, Try.ntmps61
  go_wp2_with fail
  refine (keyn_any first hf _).mono ?_
  rintro e w1 ⟨rfl, rfl⟩
  go_wp2_with fail
  rw [← HE.out]
  refine (fromkey_any (keyN first + n) hn _).mono ?_
  rintro e w1 ⟨rfl, rfl⟩
  go_wp2_with fail
  go_ret
  exact ⟨rfl, rfl⟩
theorem place_enters : ∀ args w, (callFunc 61 args).run Try.prog w = .ok (.enter 61 args) w := enters_of Try.func61 (by kernel_rfl) rfl
theorem leastc_enters : ∀ args w, (callFunc 65 args).run Try.prog w = .ok (.enter 65 args) w := enters_of Try.func65 (by kernel_rfl) rfl

set_option maxHeartbeats 2000000 in
theorem leastc_any (b o br bp by' bf first n y : Nat) (l : List (Nat × Nat)) (hl : COk l) (hf : first < 4294967296) (hn : keyN first + n < 4294967296) (w : World) (hc : CIs w b o l)
    (c1 : w.cell? ⟨br, 0, none⟩ = some (.iface 25 (.pointer (some ⟨b, o, none⟩)))) (c2 : w.cell? ⟨bp, 0, none⟩ = some (.func (.func 61) #[] #[.pointer (some ⟨bf, 0, none⟩)])) (c3 : w.cell? ⟨by', 0, none⟩ = some (.int .u32 y)) (c4 : w.cell? ⟨bf, 0, none⟩ = some (.int .u32 first)) :
    Calls Try.prog 65 (#[.int .i64 n] ++ #[.pointer (some ⟨br, 0, none⟩), .pointer (some ⟨bp, 0, none⟩), .pointer (some ⟨by', 0, none⟩)]) w fun e w' => e = .returned (.bool (comesB (atV l) (placeN first n) y)) ∧ Q w w' := by
  have hx : placeN first n < 4294967296 := fkeyN_lt hn
  have d1 := qw_cell c1
  have d2 := qw_cell c2
  have d3 := qw_cell c3
  have n0 := qw_some w
  have HD : Hid (w.cell? ⟨bf, 0, none⟩ = some (.int .u32 first)) := c4
  have HC : Hid (CIs w b o l) := hc
  have HL : Hid (COk l) := hl
  clear c1 c2 c3 c4 hc hl
  go_enter Try.func65, Try.ntmps65
  go_wp2_with fail
  refine wp_region_quiet_Q (by kernel_rfl) (by kernel_rfl) ?_
  repeat (first | go_big_quiet_step (first | (go_at_call 61; exact calls_qs (place_any bf first n hf hn _ (QW.q _ |>.cell HD.out))) | (go_at_call 60; exact calls_qw (comes_any b o l HL.out _ y hx _ (HC.out.next (QW.q _))))) | quiet_step (first | (go_at_call 61; exact calls_qs (place_any bf first n hf hn _ (QW.q _ |>.cell HD.out))) | (go_at_call 60; exact calls_qw (comes_any b o l HL.out _ y hx _ (HC.out.next (QW.q _))))))
  refine wpQuiet_nil ?_
  intro w4 hw'
  have hq4 := qw_out hw'
  clear hw'
  go_wp2_with fail
  go_ret
  exact ⟨rfl, hq4⟩
end Go.Proofs.Ytmfniimelibhfaa
