/- Pasting and extending: where samples come from. -/
import Derived.Test.YtkgfohodahkmmaaPlF
namespace Go.Proofs.Ytkgfohodahkmmaa
open Go.RowKit
set_option linter.unusedVariables false
set_option linter.unusedSimpArgs false

def lieB (i s n : Int) : Bool := decide (s ≤ i) && decide (i - n < s)
theorem lieB_true {i s n : Int} : lieB i s n = true ↔ s ≤ i ∧ i - n < s := by unfold lieB; simp
theorem lies_any (i s n : Int) (h1 : -4096 ≤ i - n) (h2 : i - n ≤ 4096) (w : World) : Calls Try.prog 54 #[.int .i64 i, .int .i64 s, .int .i64 n] w fun e w' => e = .returned (.bool (lieB i s n)) ∧ w' = w := by
  have hw : IntKind.i64.wrap (i - n) = i - n := by rw [IntKind.wrap_i64]; omega
  by_cases g1 : s ≤ i
  · by_cases g2 : i - n < s
    · rw [lieB_true.2 ⟨g1, g2⟩]
      go_enter Try.func54, Try.ntmps54
      go_wp2_with fail
      go_ret
      exact ⟨rfl, rfl⟩
    · have e : lieB i s n = false := by unfold lieB; simp [g2]
      rw [e]
      clear e
      have g3 : decide (i - n < s) = false := decide_eq_false g2
      go_enter Try.func54, Try.ntmps54
      go_wp2_with fail
      go_ret
      exact ⟨rfl, rfl⟩
  · have e : lieB i s n = false := by unfold lieB; simp [g1]
    rw [e]
    clear e
    have g3 : decide (s ≤ i) = false := decide_eq_false g1
    go_enter Try.func54, Try.ntmps54
    go_wp2_with fail
    go_ret
    exact ⟨rfl, rfl⟩
/-- A sample of a plane that another is pasted on. -/
def pasV (S : List Nat) (a : Nat) (T : List Nat) (c d : Nat) (X Y : Int) (x y : Nat) : Nat :=
  if (lieB x X c && lieB y Y d) = true then smp T c ((x : Int) - X).toNat ((y : Int) - Y).toNat else smp S a x y
set_option maxHeartbeats 2000000 in
set_option maxRecDepth 100000 in
theorem paste1_any {a b : Nat} (hs : Size a b) {S : List Nat} (hl : S.length = a * b) {g o cap B : Nat} {c d : Nat} (hs' : Size c d) {T : List Nat} (hl' : T.length = c * d) {g' o' cap' B' : Nat} {X Y : Int} {BX BY : Nat} {x y : Nat} (hx : x < a) (hy : y < b) {w : World}
    (hB : PBox w B a b (.slice (some ⟨g, o, none⟩) S.length cap)) (hu : UIs w g o S) (hB' : PBox w B' c d (.slice (some ⟨g', o', none⟩) T.length cap')) (hu' : UIs w g' o' T) (cX : w.cell? ⟨BX, 0, none⟩ = some (.int .i64 X)) (cY : w.cell? ⟨BY, 0, none⟩ = some (.int .i64 Y)) :
    Calls Try.prog 53 #[.int .i64 (x : Int), .int .i64 (y : Int), .pointer (some ⟨BX, 0, none⟩), .pointer (some ⟨B', 0, none⟩), .pointer (some ⟨BY, 0, none⟩), .pointer (some ⟨B, 0, none⟩)] w fun e w' => e = .returned (.int .u32 (pasV S a T c d X Y x y : Nat)) ∧ Q w w' := by
  obtain ⟨c0, c1, c2⟩ := hB
  obtain ⟨d0, d1, d2⟩ := hB'
  have a2 := hs.a2
  have b2 := hs.b2
  have e2 := hs'.a2
  have f2 := hs'.b2
  have A1 := lies_any (x : Int) X (c : Int) (by omega) (by omega) w
  have A2 := lies_any (y : Int) Y (d : Int) (by omega) (by omega) w
  have HS : Hid (Size a b) := hs
  have HL : Hid (S.length = a * b) := hl
  have HU : Hid (UIs w g o S) := hu
  have HS' : Hid (Size c d) := hs'
  have HL' : Hid (T.length = c * d) := hl'
  have HU' : Hid (UIs w g' o' T) := hu'
  clear hs hl hu hs' hl' hu'
  unfold pasV
  cases h1 : lieB (x : Int) X (c : Int)
  · rw [h1] at A1
    rw [Bool.false_and, if_neg (by decide)]
    clear A2 h1
    go_enter Try.func53, Try.ntmps53
    go_wp2_with fail
    refine A1.mono ?_
    rintro e w1 ⟨rfl, rfl⟩
    go_wp2_with fail
    refine (sample_any HS.out HL.out _ _ (x := x) (y := y) (by omega) (by omega) (by omega) (by omega) HU.out).mono ?_
    rintro e w1 ⟨rfl, q1⟩
    go_wp2_with fail
    go_ret
    exact ⟨rfl, q1⟩
  · rw [h1] at A1
    cases h2 : lieB (y : Int) Y (d : Int)
    · rw [h2] at A2
      rw [Bool.and_false, if_neg (by decide)]
      clear h1 h2
      go_enter Try.func53, Try.ntmps53
      go_wp2_with fail
      refine A1.mono ?_
      rintro e w1 ⟨rfl, rfl⟩
      go_wp2_with fail
      refine A2.mono ?_
      rintro e w1 ⟨rfl, rfl⟩
      go_wp2_with fail
      refine (sample_any HS.out HL.out _ _ (x := x) (y := y) (by omega) (by omega) (by omega) (by omega) HU.out).mono ?_
      rintro e w1 ⟨rfl, q1⟩
      go_wp2_with fail
      go_ret
      exact ⟨rfl, q1⟩
    · rw [h2] at A2
      rw [Bool.and_self, if_pos rfl]
      obtain ⟨k1, k2⟩ := lieB_true.1 h1
      obtain ⟨k3, k4⟩ := lieB_true.1 h2
      have v1 : IntKind.i64.wrap ((x : Int) - X) = (x : Int) - X := by rw [IntKind.wrap_i64]; omega
      have v2 : IntKind.i64.wrap ((y : Int) - Y) = (y : Int) - Y := by rw [IntKind.wrap_i64]; omega
      clear h1 h2
      go_enter Try.func53, Try.ntmps53
      go_wp2_with fail
      refine A1.mono ?_
      rintro e w1 ⟨rfl, rfl⟩
      go_wp2_with fail
      refine A2.mono ?_
      rintro e w1 ⟨rfl, rfl⟩
      go_wp2_with fail
      refine (sample_any HS'.out HL'.out _ _ (x := ((x : Int) - X).toNat) (y := ((y : Int) - Y).toNat) (by omega) (by omega) (by omega) (by omega) HU'.out).mono ?_
      rintro e w1 ⟨rfl, q1⟩
      go_wp2_with fail
      go_ret
      exact ⟨rfl, q1⟩
/-- A sample of a plane made greater. -/
def extV (S : List Nat) (a b : Nat) (k L T : Int) (x y : Nat) : Nat := smp S a (borV k a ((x : Int) - L)).toNat (borV k b ((y : Int) - T)).toNat
set_option maxHeartbeats 2000000 in
set_option maxRecDepth 100000 in
theorem ext1_any {a b : Nat} (hs : Size a b) {S : List Nat} (hl : S.length = a * b) {g o cap B : Nat} {k L T : Int} (hk : k = 1 ∨ k = 2 ∨ k = 3) (l0 : 0 ≤ L) (l1 : L ≤ 1024) (t0 : 0 ≤ T) (t1 : T ≤ 1024) {BF BL BT : Nat} {x y : Nat} (hx : x ≤ 4096) (hy : y ≤ 4096) {w : World}
    (hB : PBox w B a b (.slice (some ⟨g, o, none⟩) S.length cap)) (hu : UIs w g o S) (cF : w.cell? ⟨BF, 0, none⟩ = some (bFn k)) (cL : w.cell? ⟨BL, 0, none⟩ = some (.int .i64 L)) (cT : w.cell? ⟨BT, 0, none⟩ = some (.int .i64 T)) :
    Calls Try.prog 64 #[.int .i64 (x : Int), .int .i64 (y : Int), .pointer (some ⟨B, 0, none⟩), .pointer (some ⟨BF, 0, none⟩), .pointer (some ⟨BL, 0, none⟩), .pointer (some ⟨BT, 0, none⟩)] w fun e w' => e = .returned (.int .u32 (extV S a b k L T x y : Nat)) ∧ Q w w' := by
  obtain ⟨c0, c1, c2⟩ := hB
  obtain ⟨a1, a2, b1, b2, _⟩ := hs
  have E := bfn_enters k hk
  have i1 := borV_lt (k := k) (n := (a : Int)) ((x : Int) - L) (by omega)
  have i2 := borV_lt (k := k) (n := (b : Int)) ((y : Int) - T) (by omega)
  have v1 : IntKind.i64.wrap ((x : Int) - L) = (x : Int) - L := by rw [IntKind.wrap_i64]; omega
  have v2 : IntKind.i64.wrap ((y : Int) - T) = (y : Int) - T := by rw [IntKind.wrap_i64]; omega
  obtain ⟨XL, hXL⟩ : ∃ XL, (x : Int) - L = XL := ⟨_, rfl⟩
  obtain ⟨YT, hYT⟩ : ∃ YT, (y : Int) - T = YT := ⟨_, rfl⟩
  rw [hXL] at v1 i1
  rw [hYT] at v2 i2
  unfold extV
  rw [hXL, hYT]
  have B0 : Hid (∀ (n i : Int) (w : World), 1 ≤ n ∧ n ≤ 1024 → Calls Try.prog (bfn k) #[.int .i64 n, .int .i64 i] w fun e w' => e = .returned (.int .i64 (borV k n i)) ∧ w' = w) := fun n i w h => bfn_any k n i hk h.1 h.2 w
  have SA : Hid (∀ n : QW w, Calls Try.prog 47 #[.agg #[.int .i64 (a : Int), .int .i64 (b : Int), .slice (some ⟨g, o, none⟩) S.length cap], .int .i64 (borV k a XL), .int .i64 (borV k b YT)] n.x fun e w' => e = .returned (.int .u32 (smp S a (borV k a XL).toNat (borV k b YT).toNat : Nat)) ∧ Q n.x w') := fun n =>
    sample_any ⟨a1, a2, b1, b2, by assumption⟩ hl _ _ (by omega) (by omega) (by omega) (by omega) (hu.next n.q)
  have na : 1 ≤ (a : Int) ∧ (a : Int) ≤ 1024 := by omega
  have nb : 1 ≤ (b : Int) ∧ (b : Int) ≤ 1024 := by omega
  generalize smp S a (borV k a XL).toNat (borV k b YT).toNat = V at SA ⊢
  unfold bFn at cF
  clear hk hu hl
  have BA : Hid (∀ n : QW w, Calls Try.prog (bfn k) #[.int .i64 (a : Int), .int .i64 XL] n.x fun e w' => e = .returned (.int .i64 (borV k a XL)) ∧ w' = n.x) := fun n => B0.out _ _ _ na
  have BB : Hid (∀ n : QW w, Calls Try.prog (bfn k) #[.int .i64 (b : Int), .int .i64 YT] n.x fun e w' => e = .returned (.int .i64 (borV k b YT)) ∧ w' = n.x) := fun n => B0.out _ _ _ nb
  generalize borV k (a : Int) XL = PX at *
  generalize borV k (b : Int) YT = PY at *
  generalize bfn k = f at *
  clear B0
  have n0 := qw_some w
  have d0 := qw_cell c0
  have d1 := qw_cell c1
  have d2 := qw_cell c2
  have d3 := qw_cell cF
  have d4 := qw_cell cL
  have d5 := qw_cell cT
  go_enter Try.func64, Try.ntmps64
  go_wp2_with fail
  refine wp_region_quiet_Q (by kernel_rfl) (by kernel_rfl) ?_
  repeat (first | go_big_quiet_step (first | (go_at_call 47; exact calls_qw (SA.out _)) | (go_at_fn f; first | exact calls_qs (BA.out _) | exact calls_qs (BB.out _))) | quiet_step (first | (go_at_call 47; exact calls_qw (SA.out _)) | (go_at_fn f; first | exact calls_qs (BA.out _) | exact calls_qs (BB.out _))))
  refine wpQuiet_nil ?_
  intro w4 hw'
  have hq4 := qw_out hw'
  clear hw'
  go_wp2_with fail
  go_ret
  exact ⟨rfl, hq4⟩
end Go.Proofs.Ytkgfohodahkmmaa
