/- What package arith's Fma returns: of numbers without an answer, and of others by its steps in binary64; what was in memory stays as it was. -/
import Derived.Test.YtgpkcclapkdndabCodeF
namespace Go.Proofs.Ytgpkcclapkdndab
open Go.RowKit

theorem go_mul1 (a : Nat) (u : World) (y : Nat) (w : World) : (binOp .mul 59 (.float .f64 (nanc .f64 a u)) (.float .f64 y)).run Try.prog w = .ok (.float .f64 (nanw .f64 (nanc .f64 a u) y w)) w.drew :=
  run_arith_none .mul (by simp) 59 .f64 _ y (mul_nan1 (nanc64 a u).1 y) Try.prog w
theorem go_mul2 (a : Nat) (u : World) (x : Nat) (w : World) : (binOp .mul 59 (.float .f64 x) (.float .f64 (nanc .f64 a u))).run Try.prog w = .ok (.float .f64 (nanw .f64 x (nanc .f64 a u) w)) w.drew :=
  run_arith_none .mul (by simp) 59 .f64 x _ (mul_nan2 (nanc64 a u).1 x) Try.prog w
theorem wide_nan {a : Nat} (h : nanN a = true) (w : World) : (convert 61 59 (.float .f32 a)).run Try.prog w = .ok (.float .f64 (nanc .f64 a w)) w.drew :=
  run_conv_nan (P := Try.prog) 61 59 .f32 .f64 a (by decide) (by kernel_rfl) Try.underlying59 (read32_nan h) w
theorem wide_num {a : Nat} (h : nanN a = false) (w : World) : (convert 61 59 (.float .f32 a)).run Try.prog w = .ok (.float .f64 (wideN a)) w :=
  run_convert_float_float (P := Try.prog) w 61 59 .f32 .f64 a _ (by kernel_rfl) Try.underlying59 (wide_conv h)

set_option maxHeartbeats 800000 in
theorem fma_nnn (a b c : Nat) (ha : nanN a = true) (hb : nanN b = true) (hc : nanN c = true) (w : World) :
    Calls Try.prog 29 #[.int .u32 (a : Int), .int .u32 (b : Int), .int .u32 (c : Int)] w fun e w' => e = .returned (.int .u32 (2143289344 : Nat)) ∧ Q w w' := by
  have l0 := same64
  have la := fun w => wide_nan ha w
  have lb := fun w => wide_nan hb w
  have lc := fun w => wide_nan hc w
  have lm := go_mul1
  clear ha hb hc
  go_enter Try.func29, Try.ntmps29
  go_wp2_with fail
  refine (number_any a _).mono ?_
  rintro e w1 ⟨rfl, rfl⟩
  go_wp2_with fail
  refine (number_any b _).mono ?_
  rintro e w1 ⟨rfl, rfl⟩
  go_wp2_with fail
  refine (number_any c _).mono ?_
  rintro e w1 ⟨rfl, rfl⟩
  go_wp2_with fail
  refine (odd_nan _ _ (add_nan1 (nanw64 _ _ _).1 _) _).mono ?_
  rintro e w2 ⟨z, rfl, hz, q2⟩
  go_wp2_with fail
  refine (narrowed_any z _).mono ?_
  rintro e w3 ⟨rfl, q3⟩
  go_wp2_with fail
  go_ret
  exact ⟨ret_int (by rw [nar_nan hz]), ((Q.refl _).drew.drew.drew.drew.trans q2).trans q3⟩

set_option maxHeartbeats 800000 in
theorem fma_nnf (a b c : Nat) (ha : nanN a = true) (hb : nanN b = true) (hc : nanN c = false) (w : World) :
    Calls Try.prog 29 #[.int .u32 (a : Int), .int .u32 (b : Int), .int .u32 (c : Int)] w fun e w' => e = .returned (.int .u32 (2143289344 : Nat)) ∧ Q w w' := by
  have l0 := same64
  have la := fun w => wide_nan ha w
  have lb := fun w => wide_nan hb w
  have lc := fun w => wide_num hc w
  have lm := go_mul1
  clear ha hb hc
  go_enter Try.func29, Try.ntmps29
  go_wp2_with fail
  refine (number_any a _).mono ?_
  rintro e w1 ⟨rfl, rfl⟩
  go_wp2_with fail
  refine (number_any b _).mono ?_
  rintro e w1 ⟨rfl, rfl⟩
  go_wp2_with fail
  refine (number_any c _).mono ?_
  rintro e w1 ⟨rfl, rfl⟩
  go_wp2_with fail
  refine (odd_nan _ _ (add_nan1 (nanw64 _ _ _).1 _) _).mono ?_
  rintro e w2 ⟨z, rfl, hz, q2⟩
  go_wp2_with fail
  refine (narrowed_any z _).mono ?_
  rintro e w3 ⟨rfl, q3⟩
  go_wp2_with fail
  go_ret
  exact ⟨ret_int (by rw [nar_nan hz]), ((Q.refl _).drew.drew.drew.trans q2).trans q3⟩

set_option maxHeartbeats 800000 in
theorem fma_nfn (a b c : Nat) (ha : nanN a = true) (hb : nanN b = false) (hc : nanN c = true) (w : World) :
    Calls Try.prog 29 #[.int .u32 (a : Int), .int .u32 (b : Int), .int .u32 (c : Int)] w fun e w' => e = .returned (.int .u32 (2143289344 : Nat)) ∧ Q w w' := by
  have l0 := same64
  have la := fun w => wide_nan ha w
  have lb := fun w => wide_num hb w
  have lc := fun w => wide_nan hc w
  have lm := go_mul1
  clear ha hb hc
  go_enter Try.func29, Try.ntmps29
  go_wp2_with fail
  refine (number_any a _).mono ?_
  rintro e w1 ⟨rfl, rfl⟩
  go_wp2_with fail
  refine (number_any b _).mono ?_
  rintro e w1 ⟨rfl, rfl⟩
  go_wp2_with fail
  refine (number_any c _).mono ?_
  rintro e w1 ⟨rfl, rfl⟩
  go_wp2_with fail
  refine (odd_nan _ _ (add_nan1 (nanw64 _ _ _).1 _) _).mono ?_
  rintro e w2 ⟨z, rfl, hz, q2⟩
  go_wp2_with fail
  refine (narrowed_any z _).mono ?_
  rintro e w3 ⟨rfl, q3⟩
  go_wp2_with fail
  go_ret
  exact ⟨ret_int (by rw [nar_nan hz]), ((Q.refl _).drew.drew.drew.trans q2).trans q3⟩

set_option maxHeartbeats 800000 in
theorem fma_nff (a b c : Nat) (ha : nanN a = true) (hb : nanN b = false) (hc : nanN c = false) (w : World) :
    Calls Try.prog 29 #[.int .u32 (a : Int), .int .u32 (b : Int), .int .u32 (c : Int)] w fun e w' => e = .returned (.int .u32 (2143289344 : Nat)) ∧ Q w w' := by
  have l0 := same64
  have la := fun w => wide_nan ha w
  have lb := fun w => wide_num hb w
  have lc := fun w => wide_num hc w
  have lm := go_mul1
  clear ha hb hc
  go_enter Try.func29, Try.ntmps29
  go_wp2_with fail
  refine (number_any a _).mono ?_
  rintro e w1 ⟨rfl, rfl⟩
  go_wp2_with fail
  refine (number_any b _).mono ?_
  rintro e w1 ⟨rfl, rfl⟩
  go_wp2_with fail
  refine (number_any c _).mono ?_
  rintro e w1 ⟨rfl, rfl⟩
  go_wp2_with fail
  refine (odd_nan _ _ (add_nan1 (nanw64 _ _ _).1 _) _).mono ?_
  rintro e w2 ⟨z, rfl, hz, q2⟩
  go_wp2_with fail
  refine (narrowed_any z _).mono ?_
  rintro e w3 ⟨rfl, q3⟩
  go_wp2_with fail
  go_ret
  exact ⟨ret_int (by rw [nar_nan hz]), ((Q.refl _).drew.drew.trans q2).trans q3⟩

set_option maxHeartbeats 800000 in
theorem fma_fnn (a b c : Nat) (ha : nanN a = false) (hb : nanN b = true) (hc : nanN c = true) (w : World) :
    Calls Try.prog 29 #[.int .u32 (a : Int), .int .u32 (b : Int), .int .u32 (c : Int)] w fun e w' => e = .returned (.int .u32 (2143289344 : Nat)) ∧ Q w w' := by
  have l0 := same64
  have la := fun w => wide_num ha w
  have lb := fun w => wide_nan hb w
  have lc := fun w => wide_nan hc w
  have lm := go_mul2
  clear ha hb hc
  go_enter Try.func29, Try.ntmps29
  go_wp2_with fail
  refine (number_any a _).mono ?_
  rintro e w1 ⟨rfl, rfl⟩
  go_wp2_with fail
  refine (number_any b _).mono ?_
  rintro e w1 ⟨rfl, rfl⟩
  go_wp2_with fail
  refine (number_any c _).mono ?_
  rintro e w1 ⟨rfl, rfl⟩
  go_wp2_with fail
  refine (odd_nan _ _ (add_nan1 (nanw64 _ _ _).1 _) _).mono ?_
  rintro e w2 ⟨z, rfl, hz, q2⟩
  go_wp2_with fail
  refine (narrowed_any z _).mono ?_
  rintro e w3 ⟨rfl, q3⟩
  go_wp2_with fail
  go_ret
  exact ⟨ret_int (by rw [nar_nan hz]), ((Q.refl _).drew.drew.drew.trans q2).trans q3⟩

set_option maxHeartbeats 800000 in
theorem fma_fnf (a b c : Nat) (ha : nanN a = false) (hb : nanN b = true) (hc : nanN c = false) (w : World) :
    Calls Try.prog 29 #[.int .u32 (a : Int), .int .u32 (b : Int), .int .u32 (c : Int)] w fun e w' => e = .returned (.int .u32 (2143289344 : Nat)) ∧ Q w w' := by
  have l0 := same64
  have la := fun w => wide_num ha w
  have lb := fun w => wide_nan hb w
  have lc := fun w => wide_num hc w
  have lm := go_mul2
  clear ha hb hc
  go_enter Try.func29, Try.ntmps29
  go_wp2_with fail
  refine (number_any a _).mono ?_
  rintro e w1 ⟨rfl, rfl⟩
  go_wp2_with fail
  refine (number_any b _).mono ?_
  rintro e w1 ⟨rfl, rfl⟩
  go_wp2_with fail
  refine (number_any c _).mono ?_
  rintro e w1 ⟨rfl, rfl⟩
  go_wp2_with fail
  refine (odd_nan _ _ (add_nan1 (nanw64 _ _ _).1 _) _).mono ?_
  rintro e w2 ⟨z, rfl, hz, q2⟩
  go_wp2_with fail
  refine (narrowed_any z _).mono ?_
  rintro e w3 ⟨rfl, q3⟩
  go_wp2_with fail
  go_ret
  exact ⟨ret_int (by rw [nar_nan hz]), ((Q.refl _).drew.drew.trans q2).trans q3⟩

set_option maxHeartbeats 800000 in
theorem fma_pn (a b c : Nat) (ha : nanN a = false) (hb : nanN b = false) (hc : nanN c = true) (hm : floatBits .mul .f64 (wideN a) (wideN b) = none) (w : World) :
    Calls Try.prog 29 #[.int .u32 (a : Int), .int .u32 (b : Int), .int .u32 (c : Int)] w fun e w' => e = .returned (.int .u32 (2143289344 : Nat)) ∧ Q w w' := by
  have l0 := same64
  have la := fun w => wide_num ha w
  have lb := fun w => wide_num hb w
  have lc := fun w => wide_nan hc w
  have lm := fun w => run_arith_none .mul (by simp) 59 .f64 _ _ hm Try.prog w
  clear ha hb hc hm
  go_enter Try.func29, Try.ntmps29
  go_wp2_with fail
  refine (number_any a _).mono ?_
  rintro e w1 ⟨rfl, rfl⟩
  go_wp2_with fail
  refine (number_any b _).mono ?_
  rintro e w1 ⟨rfl, rfl⟩
  go_wp2_with fail
  refine (number_any c _).mono ?_
  rintro e w1 ⟨rfl, rfl⟩
  go_wp2_with fail
  refine (odd_nan _ _ (add_nan1 (nanw64 _ _ _).1 _) _).mono ?_
  rintro e w2 ⟨z, rfl, hz, q2⟩
  go_wp2_with fail
  refine (narrowed_any z _).mono ?_
  rintro e w3 ⟨rfl, q3⟩
  go_wp2_with fail
  go_ret
  exact ⟨ret_int (by rw [nar_nan hz]), ((Q.refl _).drew.drew.trans q2).trans q3⟩

set_option maxHeartbeats 800000 in
theorem fma_pf (a b c : Nat) (ha : nanN a = false) (hb : nanN b = false) (hc : nanN c = false) (hm : floatBits .mul .f64 (wideN a) (wideN b) = none) (w : World) :
    Calls Try.prog 29 #[.int .u32 (a : Int), .int .u32 (b : Int), .int .u32 (c : Int)] w fun e w' => e = .returned (.int .u32 (2143289344 : Nat)) ∧ Q w w' := by
  have l0 := same64
  have la := fun w => wide_num ha w
  have lb := fun w => wide_num hb w
  have lc := fun w => wide_num hc w
  have lm := fun w => run_arith_none .mul (by simp) 59 .f64 _ _ hm Try.prog w
  clear ha hb hc hm
  go_enter Try.func29, Try.ntmps29
  go_wp2_with fail
  refine (number_any a _).mono ?_
  rintro e w1 ⟨rfl, rfl⟩
  go_wp2_with fail
  refine (number_any b _).mono ?_
  rintro e w1 ⟨rfl, rfl⟩
  go_wp2_with fail
  refine (number_any c _).mono ?_
  rintro e w1 ⟨rfl, rfl⟩
  go_wp2_with fail
  refine (odd_nan _ _ (add_nan1 (nanw64 _ _ _).1 _) _).mono ?_
  rintro e w2 ⟨z, rfl, hz, q2⟩
  go_wp2_with fail
  refine (narrowed_any z _).mono ?_
  rintro e w3 ⟨rfl, q3⟩
  go_wp2_with fail
  go_ret
  exact ⟨ret_int (by rw [nar_nan hz]), ((Q.refl _).drew.trans q2).trans q3⟩

set_option maxHeartbeats 800000 in
theorem fma_sn (a b c : Nat) (p : Nat) (ha : nanN a = false) (hb : nanN b = false) (hc : nanN c = true) (hm : floatBits .mul .f64 (wideN a) (wideN b) = some p) (w : World) :
    Calls Try.prog 29 #[.int .u32 (a : Int), .int .u32 (b : Int), .int .u32 (c : Int)] w fun e w' => e = .returned (.int .u32 (2143289344 : Nat)) ∧ Q w w' := by
  have l0 := same64
  have la := fun w => wide_num ha w
  have lb := fun w => wide_num hb w
  have lc := fun w => wide_nan hc w
  have lm := fun w => run_float_arith (P := Try.prog) w .mul 59 .f64 _ _ _ hm
  clear ha hb hc hm
  go_enter Try.func29, Try.ntmps29
  go_wp2_with fail
  refine (number_any a _).mono ?_
  rintro e w1 ⟨rfl, rfl⟩
  go_wp2_with fail
  refine (number_any b _).mono ?_
  rintro e w1 ⟨rfl, rfl⟩
  go_wp2_with fail
  refine (number_any c _).mono ?_
  rintro e w1 ⟨rfl, rfl⟩
  go_wp2_with fail
  refine (odd_nan _ _ (add_nan2 (nanc64 c _).1 _) _).mono ?_
  rintro e w2 ⟨z, rfl, hz, q2⟩
  go_wp2_with fail
  refine (narrowed_any z _).mono ?_
  rintro e w3 ⟨rfl, q3⟩
  go_wp2_with fail
  go_ret
  exact ⟨ret_int (by rw [nar_nan hz]), ((Q.refl _).drew.trans q2).trans q3⟩

set_option maxHeartbeats 800000 in
theorem fma_sf (a b c : Nat) (p : Nat) (ha : nanN a = false) (hb : nanN b = false) (hc : nanN c = false) (hm : floatBits .mul .f64 (wideN a) (wideN b) = some p) (hs : floatBits .add .f64 p (wideN c) = none) (w : World) :
    Calls Try.prog 29 #[.int .u32 (a : Int), .int .u32 (b : Int), .int .u32 (c : Int)] w fun e w' => e = .returned (.int .u32 (2143289344 : Nat)) ∧ Q w w' := by
  have l0 := same64
  have la := fun w => wide_num ha w
  have lb := fun w => wide_num hb w
  have lc := fun w => wide_num hc w
  have lm := fun w => run_float_arith (P := Try.prog) w .mul 59 .f64 _ _ _ hm
  clear ha hb hc hm
  go_enter Try.func29, Try.ntmps29
  go_wp2_with fail
  refine (number_any a _).mono ?_
  rintro e w1 ⟨rfl, rfl⟩
  go_wp2_with fail
  refine (number_any b _).mono ?_
  rintro e w1 ⟨rfl, rfl⟩
  go_wp2_with fail
  refine (number_any c _).mono ?_
  rintro e w1 ⟨rfl, rfl⟩
  go_wp2_with fail
  refine (odd_nan _ _ hs _).mono ?_
  rintro e w2 ⟨z, rfl, hz, q2⟩
  go_wp2_with fail
  refine (narrowed_any z _).mono ?_
  rintro e w3 ⟨rfl, q3⟩
  go_wp2_with fail
  go_ret
  exact ⟨ret_int (by rw [nar_nan hz]), ((Q.refl _).trans q2).trans q3⟩

/-- One that is a NaN, or a product or a sum without an answer. -/
theorem cfma_nan (a b c : Nat) (h : nanN a = true ∨ nanN b = true ∨ nanN c = true ∨ floatBits .mul .f64 (wideN a) (wideN b) = none ∨ ∃ p, floatBits .mul .f64 (wideN a) (wideN b) = some p ∧ floatBits .add .f64 p (wideN c) = none) (w : World) :
    Calls Try.prog 29 #[.int .u32 (a : Int), .int .u32 (b : Int), .int .u32 (c : Int)] w fun e w' => e = .returned (.int .u32 (2143289344 : Nat)) ∧ Q w w' := by
  cases ha : nanN a <;> cases hb : nanN b <;> cases hc : nanN c
  · rcases h with h | h | h | h | ⟨p, h, g⟩
    · rw [ha] at h; cases h
    · rw [hb] at h; cases h
    · rw [hc] at h; cases h
    · exact fma_pf a b c ha hb hc h w
    · exact fma_sf a b c p ha hb hc h g w
  · cases hm : floatBits .mul .f64 (wideN a) (wideN b) with
    | none => exact fma_pn a b c ha hb hc hm w
    | some p => exact fma_sn a b c p ha hb hc hm w
  · exact fma_fnf a b c ha hb hc w
  · exact fma_fnn a b c ha hb hc w
  · exact fma_nff a b c ha hb hc w
  · exact fma_nfn a b c ha hb hc w
  · exact fma_nnf a b c ha hb hc w
  · exact fma_nnn a b c ha hb hc w

set_option maxHeartbeats 800000 in
theorem cfma_odd (a b c p z : Nat) (ha : nanN a = false) (hb : nanN b = false) (hc : nanN c = false) (hm : floatBits .mul .f64 (wideN a) (wideN b) = some p)
    (hO : ∀ w, Calls Try.prog 67 #[.float .f64 p, .float .f64 (wideN c)] w fun e w' => e = .returned (.float .f64 z) ∧ Q w w') (w : World) :
    Calls Try.prog 29 #[.int .u32 (a : Int), .int .u32 (b : Int), .int .u32 (c : Int)] w fun e w' => e = .returned (.int .u32 (toldD (some (Ieee.double.read z)) : Nat)) ∧ Q w w' := by
  have l0 := same64
  have la := fun w => wide_num ha w
  have lb := fun w => wide_num hb w
  have lc := fun w => wide_num hc w
  have lm := fun w => run_float_arith (P := Try.prog) w .mul 59 .f64 _ _ _ hm
  clear ha hb hc hm
  go_enter Try.func29, Try.ntmps29
  go_wp2_with fail
  refine (number_any a _).mono ?_
  rintro e w1 ⟨rfl, rfl⟩
  go_wp2_with fail
  refine (number_any b _).mono ?_
  rintro e w1 ⟨rfl, rfl⟩
  go_wp2_with fail
  refine (number_any c _).mono ?_
  rintro e w1 ⟨rfl, rfl⟩
  go_wp2_with fail
  refine (hO _).mono ?_
  rintro e w2 ⟨rfl, q2⟩
  go_wp2_with fail
  refine (narrowed_any z _).mono ?_
  rintro e w3 ⟨rfl, q3⟩
  go_wp2_with fail
  go_ret
  exact ⟨rfl, q2.trans q3⟩
end Go.Proofs.Ytgpkcclapkdndab
