/- What the reference's Round returns at binary64 of whatever number; its Wide and Narrow. -/
import Derived.Test.YtgpkcclapkdndabFormC
import Derived.Test.YtgpkcclapkdndabFormD
import Derived.Test.YtgpkcclapkdndabRoundD
import Derived.Test.YtgpkcclapkdndabLinkA
namespace Go.Proofs.Ytgpkcclapkdndab
open Go.RowKit

/-- The word of binary64. -/
def roundD : RNum → Nat
  | ⟨none⟩ => 9221120237041090560
  | ⟨some (.inl s)⟩ => Ieee.double.word s 9218868437227405312
  | ⟨some (.inr (s, n, e, m))⟩ => Ieee.double.word s (rungOf Ieee.double (2 * n + m.toNat) (e - 1))
def fitsD : RNum → Prop
  | ⟨some (.inr (_, n, e, m))⟩ => blen n ≤ 6000 ∧ -5000 ≤ e ∧ e ≤ 5000 ∧ (m = true → n ≠ 0 ∧ e + 1 ≤ lastOf Ieee.double n e)
  | _ => True

set_option maxHeartbeats 4000000 in
set_option maxRecDepth 1000000 in
theorem round64_any (v : Value) (x : RNum) (w : World) (hx : NumAt w v x) (hf : fitsD x) :
    Calls Try.prog 59 #[.agg #[.int .i64 52, .int .i64 11], v] w fun e w' => e = .returned (.int .u64 (roundD x : Int)) ∧ Q w w' := by
  cases x using RNum.rec3 with
  | nan =>
    obtain ⟨b, e, m, rfl⟩ := hx
    go_enter Try.func59, Try.ntmps59
    go_wp2_with fail
    refine (fmade_any 52 11 9221120237041090560 (by decide) _).mono ?_
    rintro e w1 ⟨rfl, q1⟩
    go_wp2_with fail
    go_ret
    exact ⟨rfl, (((Q.refl w).cells _ _).cells _ _).trans q1⟩
  | inf s =>
    obtain ⟨e, m, rfl⟩ := hx
    have w4 : IntKind.u64.wrap 9218868437227405312 = 9218868437227405312 := by decide
    have hor := or_word_64 (neg := s) (r := 9218868437227405312) (by decide)
    rw [show ((9218868437227405312 : Nat) : Int) = 9218868437227405312 from rfl] at hor
    obtain ⟨Wd, hWd⟩ : ∃ Wd : Nat, Wd = Ieee.double.word s 9218868437227405312 := ⟨_, rfl⟩
    rw [← hWd] at hor
    have HWD : Hid _ := hWd
    clear hWd
    go_enter Try.func59, Try.ntmps59
    go_wp2_with fail
    go_region_held3 (fun w' => w'.cell? ⟨w.heap.size, 0, none⟩ = some (.int .i64 52) ∧ w'.cell? ⟨w.heap.size, 1, none⟩ = some (.int .i64 11) ∧ w'.cell? ⟨w.heap.size + 1, 1, none⟩ = some (.bool s)) (first | (simp [go_sem]; done) | go_keep) (first | (go_at_call 86; refine (sign_any 52 11 true s (by decide) _).mono ?_; rintro x v1 ⟨rfl, rfl⟩) | (go_at_call 62; refine (top_any 52 11 2047 (by decide) _).mono ?_; rintro x v1 ⟨rfl, rfl⟩))
    all_goals
      go_wp2_with fail
      go_ret
      exact ⟨ret_int (by rw [HWD.out]; rfl), (((((Q.refl w).cells _ _).cells _ _).cells _ _).cells _ _).drew⟩
  | fin s n e m =>
    obtain ⟨nv, rfl, hn⟩ := hx
    exact round64_fin s nv n e m w hn hf.1 hf.2.1 hf.2.2.1 hf.2.2.2
end Go.Proofs.Ytgpkcclapkdndab
