/- Where samples come from: the function values of the program. -/
import Derived.Test.YtkgfohodahkmmaaPlE
namespace Go.Proofs.Ytkgfohodahkmmaa
open Go.RowKit
set_option linter.unusedVariables false
set_option linter.unusedSimpArgs false

set_option maxHeartbeats 1000000 in
set_option maxRecDepth 100000 in
theorem sample_any {a b : Nat} (hs : Size a b) {S : List Nat} (hl : S.length = a * b) {g o cap : Nat} (X Y : Int) {x y : Nat} (hX : X = x) (hY : Y = y) (hx : x < a) (hy : y < b) {w : World} (hu : UIs w g o S) :
    Calls Try.prog 47 #[.agg #[.int .i64 (a : Int), .int .i64 (b : Int), .slice (some ⟨g, o, none⟩) S.length cap], .int .i64 X, .int .i64 Y] w fun e w' => e = .returned (.int .u32 (smp S a x y : Nat)) ∧ Q w w' := by
  have hp := place_lt hx hy
  have hab := hs.ab
  rw [← hl] at hp hab
  have hc := hu _ hp
  have hS : S.getD (y * a + x) 0 = smp S a x y := rfl
  rw [hS] at hc
  generalize smp S a x y = V at *
  subst hX hY
  obtain ⟨ya, hya⟩ : ∃ ya, y * a = ya := ⟨_, rfl⟩
  rw [hya] at hp hc
  have hyc : (y : Int) * (a : Int) = (ya : Int) := by rw [← Int.natCast_mul, hya]
  have h1 : (0 : Int) ≤ (ya : Int) + (x : Int) := by omega
  have h2 : (ya : Int) + (x : Int) < (S.length : Int) := by omega
  have hw : IntKind.i64.wrap ((ya : Int) + (x : Int)) = (ya : Int) + (x : Int) := by rw [IntKind.wrap_i64]; omega
  have ht : ((ya : Int) + (x : Int)).toNat = ya + x := by omega
  have Q0 : Hid (∀ c t, Q w (w.alloc (.cells c t))) := fun c t => (Q.refl w).cells c t
  have hc' : ∀ c t, (w.alloc (.cells c t)).cell? ⟨g, o + (ya + x), none⟩ = some (.int .u32 (V : Nat)) := fun c t => (Q0.out c t).cell hc
  clear hu hs hl hya hS hx hy
  go_enter Try.func47, Try.ntmps47
  go_wp2_with fail
  go_ret
  exact ⟨rfl, Q0.out _ _⟩
set_option maxHeartbeats 1000000 in
set_option maxRecDepth 100000 in
theorem rat_any {a b : Nat} (hs : Size a b) {S : List Nat} (hl : S.length = a * b) {g o cap : Nat} (X Y : Int) {x y : Nat} (hX : X = x) (hY : Y = y) (hx : x < a) (hy : y < b) {w : World} (hu : UIs w g o S) :
    Calls Try.prog 48 #[.agg #[.int .i64 (a : Int), .int .i64 (b : Int), .slice (some ⟨g, o, none⟩) S.length cap], .int .i64 X, .int .i64 Y] w fun e w' => e = .returned (.int .u32 (smp S a x y : Nat)) ∧ Q w w' := by
  have hp := place_lt hx hy
  have hab := hs.ab
  rw [← hl] at hp hab
  have hc := hu _ hp
  have hS : S.getD (y * a + x) 0 = smp S a x y := rfl
  rw [hS] at hc
  generalize smp S a x y = V at *
  subst hX hY
  obtain ⟨ya, hya⟩ : ∃ ya, y * a = ya := ⟨_, rfl⟩
  rw [hya] at hp hc
  have hyc : (y : Int) * (a : Int) = (ya : Int) := by rw [← Int.natCast_mul, hya]
  have h1 : (0 : Int) ≤ (ya : Int) + (x : Int) := by omega
  have h2 : (ya : Int) + (x : Int) < (S.length : Int) := by omega
  have hw : IntKind.i64.wrap ((ya : Int) + (x : Int)) = (ya : Int) + (x : Int) := by rw [IntKind.wrap_i64]; omega
  have ht : ((ya : Int) + (x : Int)).toNat = ya + x := by omega
  have Q0 : Hid (∀ c t, Q w (w.alloc (.cells c t))) := fun c t => (Q.refl w).cells c t
  have hc' : ∀ c t, (w.alloc (.cells c t)).cell? ⟨g, o + (ya + x), none⟩ = some (.int .u32 (V : Nat)) := fun c t => (Q0.out c t).cell hc
  clear hu hs hl hya hS hx hy
  go_enter Try.func48, Try.ntmps48
  go_wp2_with fail
  go_ret
  exact ⟨rfl, Q0.out _ _⟩

/-- A plane in a variable. -/
structure PBox (w : World) (B a b : Nat) (v : Value) : Prop where
  c0 : w.cell? ⟨B, 0, none⟩ = some (.int .i64 (a : Int))
  c1 : w.cell? ⟨B, 1, none⟩ = some (.int .i64 (b : Int))
  c2 : w.cell? ⟨B, 2, none⟩ = some v
theorem PBox.next {w w' : World} {B a b : Nat} {v : Value} (h : PBox w B a b v) (q : Q w w') : PBox w' B a b v := ⟨q.cell h.c0, q.cell h.c1, q.cell h.c2⟩
theorem new1_any {B s : Nat} {x y : Int} {w : World} (hB : w.cell? ⟨B, 0, none⟩ = some (.int .u32 (s : Int))) :
    Calls Try.prog 43 #[.int .i64 x, .int .i64 y, .pointer (some ⟨B, 0, none⟩)] w fun e w' => e = .returned (.int .u32 (s : Nat)) ∧ Q w w' := by
  go_enter Try.func43, Try.ntmps43
  go_wp2_with fail
  go_ret
  exact ⟨rfl, Q.refl _⟩
set_option maxHeartbeats 1000000 in
set_option maxRecDepth 100000 in
theorem crop1_any {a b : Nat} (hs : Size a b) {S : List Nat} (hl : S.length = a * b) {g o cap B : Nat} {R x0 y0 : Nat} {x y : Nat} (hx : x0 + x < a) (hy : y0 + y < b) {w : World} (hB : PBox w B a b (.slice (some ⟨g, o, none⟩) S.length cap)) (hu : UIs w g o S) (r0 : w.cell? ⟨R, 0, none⟩ = some (.int .i64 (x0 : Int))) (r1 : w.cell? ⟨R, 1, none⟩ = some (.int .i64 (y0 : Int))) :
    Calls Try.prog 52 #[.int .i64 (x : Int), .int .i64 (y : Int), .pointer (some ⟨B, 0, none⟩), .pointer (some ⟨R, 0, none⟩)] w fun e w' => e = .returned (.int .u32 (smp S a (x0 + x) (y0 + y) : Nat)) ∧ Q w w' := by
  obtain ⟨c0, c1, c2⟩ := hB
  have a2 := hs.a2
  have b2 := hs.b2
  have HS : Hid (Size a b) := hs
  have HL : Hid (S.length = a * b) := hl
  have HU : Hid (UIs w g o S) := hu
  clear hs hl hu
  go_enter Try.func52, Try.ntmps52
  go_wp2_with fail
  refine (sample_any HS.out HL.out _ _ (x := (x0 + x)) (y := (y0 + y)) (by omega) (by omega) (by omega) (by omega) HU.out).mono ?_
  rintro e w1 ⟨rfl, q1⟩
  go_wp2_with fail
  go_ret
  exact ⟨rfl, q1⟩
set_option maxHeartbeats 1000000 in
set_option maxRecDepth 100000 in
theorem flip1_any {a b : Nat} (hs : Size a b) {S : List Nat} (hl : S.length = a * b) {g o cap B : Nat}  {x y : Nat} (hx : x < a) (hy : y < b) {w : World} (hB : PBox w B a b (.slice (some ⟨g, o, none⟩) S.length cap)) (hu : UIs w g o S)  :
    Calls Try.prog 57 #[.int .i64 (x : Int), .int .i64 (y : Int), .pointer (some ⟨B, 0, none⟩)] w fun e w' => e = .returned (.int .u32 (smp S a x (b - 1 - y) : Nat)) ∧ Q w w' := by
  obtain ⟨c0, c1, c2⟩ := hB
  have a2 := hs.a2
  have b2 := hs.b2
  have HS : Hid (Size a b) := hs
  have HL : Hid (S.length = a * b) := hl
  have HU : Hid (UIs w g o S) := hu
  clear hs hl hu
  go_enter Try.func57, Try.ntmps57
  go_wp2_with fail
  refine (sample_any HS.out HL.out _ _ (x := x) (y := (b - 1 - y)) (by omega) (by omega) (by omega) (by omega) HU.out).mono ?_
  rintro e w1 ⟨rfl, q1⟩
  go_wp2_with fail
  go_ret
  exact ⟨rfl, q1⟩
set_option maxHeartbeats 1000000 in
set_option maxRecDepth 100000 in
theorem flip2_any {a b : Nat} (hs : Size a b) {S : List Nat} (hl : S.length = a * b) {g o cap B : Nat}  {x y : Nat} (hx : x < a) (hy : y < b) {w : World} (hB : PBox w B a b (.slice (some ⟨g, o, none⟩) S.length cap)) (hu : UIs w g o S)  :
    Calls Try.prog 58 #[.int .i64 (x : Int), .int .i64 (y : Int), .pointer (some ⟨B, 0, none⟩)] w fun e w' => e = .returned (.int .u32 (smp S a (a - 1 - x) y : Nat)) ∧ Q w w' := by
  obtain ⟨c0, c1, c2⟩ := hB
  have a2 := hs.a2
  have b2 := hs.b2
  have HS : Hid (Size a b) := hs
  have HL : Hid (S.length = a * b) := hl
  have HU : Hid (UIs w g o S) := hu
  clear hs hl hu
  go_enter Try.func58, Try.ntmps58
  go_wp2_with fail
  refine (sample_any HS.out HL.out _ _ (x := (a - 1 - x)) (y := y) (by omega) (by omega) (by omega) (by omega) HU.out).mono ?_
  rintro e w1 ⟨rfl, q1⟩
  go_wp2_with fail
  go_ret
  exact ⟨rfl, q1⟩
set_option maxHeartbeats 1000000 in
set_option maxRecDepth 100000 in
theorem trans1_any {a b : Nat} (hs : Size a b) {S : List Nat} (hl : S.length = a * b) {g o cap B : Nat}  {x y : Nat} (hx : x < b) (hy : y < a) {w : World} (hB : PBox w B a b (.slice (some ⟨g, o, none⟩) S.length cap)) (hu : UIs w g o S)  :
    Calls Try.prog 59 #[.int .i64 (x : Int), .int .i64 (y : Int), .pointer (some ⟨B, 0, none⟩)] w fun e w' => e = .returned (.int .u32 (smp S a y x : Nat)) ∧ Q w w' := by
  obtain ⟨c0, c1, c2⟩ := hB
  have a2 := hs.a2
  have b2 := hs.b2
  have HS : Hid (Size a b) := hs
  have HL : Hid (S.length = a * b) := hl
  have HU : Hid (UIs w g o S) := hu
  clear hs hl hu
  go_enter Try.func59, Try.ntmps59
  go_wp2_with fail
  refine (sample_any HS.out HL.out _ _ (x := y) (y := x) (by omega) (by omega) (by omega) (by omega) HU.out).mono ?_
  rintro e w1 ⟨rfl, q1⟩
  go_wp2_with fail
  go_ret
  exact ⟨rfl, q1⟩
set_option maxHeartbeats 1000000 in
set_option maxRecDepth 100000 in
theorem turn1_any {a b : Nat} (hs : Size a b) {S : List Nat} (hl : S.length = a * b) {g o cap B : Nat}  {x y : Nat} (hx : x < b) (hy : y < a) {w : World} (hB : PBox w B a b (.slice (some ⟨g, o, none⟩) S.length cap)) (hu : UIs w g o S)  :
    Calls Try.prog 68 #[.int .i64 (x : Int), .int .i64 (y : Int), .pointer (some ⟨B, 0, none⟩)] w fun e w' => e = .returned (.int .u32 (smp S a y (b - 1 - x) : Nat)) ∧ Q w w' := by
  obtain ⟨c0, c1, c2⟩ := hB
  have a2 := hs.a2
  have b2 := hs.b2
  have HS : Hid (Size a b) := hs
  have HL : Hid (S.length = a * b) := hl
  have HU : Hid (UIs w g o S) := hu
  clear hs hl hu
  go_enter Try.func68, Try.ntmps68
  go_wp2_with fail
  refine (sample_any HS.out HL.out _ _ (x := y) (y := (b - 1 - x)) (by omega) (by omega) (by omega) (by omega) HU.out).mono ?_
  rintro e w1 ⟨rfl, q1⟩
  go_wp2_with fail
  go_ret
  exact ⟨rfl, q1⟩
set_option maxHeartbeats 1000000 in
set_option maxRecDepth 100000 in
theorem turn2_any {a b : Nat} (hs : Size a b) {S : List Nat} (hl : S.length = a * b) {g o cap B : Nat}  {x y : Nat} (hx : x < a) (hy : y < b) {w : World} (hB : PBox w B a b (.slice (some ⟨g, o, none⟩) S.length cap)) (hu : UIs w g o S)  :
    Calls Try.prog 69 #[.int .i64 (x : Int), .int .i64 (y : Int), .pointer (some ⟨B, 0, none⟩)] w fun e w' => e = .returned (.int .u32 (smp S a (a - 1 - x) (b - 1 - y) : Nat)) ∧ Q w w' := by
  obtain ⟨c0, c1, c2⟩ := hB
  have a2 := hs.a2
  have b2 := hs.b2
  have HS : Hid (Size a b) := hs
  have HL : Hid (S.length = a * b) := hl
  have HU : Hid (UIs w g o S) := hu
  clear hs hl hu
  go_enter Try.func69, Try.ntmps69
  go_wp2_with fail
  refine (sample_any HS.out HL.out _ _ (x := (a - 1 - x)) (y := (b - 1 - y)) (by omega) (by omega) (by omega) (by omega) HU.out).mono ?_
  rintro e w1 ⟨rfl, q1⟩
  go_wp2_with fail
  go_ret
  exact ⟨rfl, q1⟩
set_option maxHeartbeats 1000000 in
set_option maxRecDepth 100000 in
theorem turn3_any {a b : Nat} (hs : Size a b) {S : List Nat} (hl : S.length = a * b) {g o cap B : Nat}  {x y : Nat} (hx : x < b) (hy : y < a) {w : World} (hB : PBox w B a b (.slice (some ⟨g, o, none⟩) S.length cap)) (hu : UIs w g o S)  :
    Calls Try.prog 70 #[.int .i64 (x : Int), .int .i64 (y : Int), .pointer (some ⟨B, 0, none⟩)] w fun e w' => e = .returned (.int .u32 (smp S a (a - 1 - y) x : Nat)) ∧ Q w w' := by
  obtain ⟨c0, c1, c2⟩ := hB
  have a2 := hs.a2
  have b2 := hs.b2
  have HS : Hid (Size a b) := hs
  have HL : Hid (S.length = a * b) := hl
  have HU : Hid (UIs w g o S) := hu
  clear hs hl hu
  go_enter Try.func70, Try.ntmps70
  go_wp2_with fail
  refine (sample_any HS.out HL.out _ _ (x := (a - 1 - y)) (y := x) (by omega) (by omega) (by omega) (by omega) HU.out).mono ?_
  rintro e w1 ⟨rfl, q1⟩
  go_wp2_with fail
  go_ret
  exact ⟨rfl, q1⟩
set_option maxHeartbeats 1000000 in
set_option maxRecDepth 100000 in
theorem turn4_any {a b : Nat} (hs : Size a b) {S : List Nat} (hl : S.length = a * b) {g o cap B : Nat}  {x y : Nat} (hx : x < a) (hy : y < b) {w : World} (hB : PBox w B a b (.slice (some ⟨g, o, none⟩) S.length cap)) (hu : UIs w g o S)  :
    Calls Try.prog 71 #[.int .i64 (x : Int), .int .i64 (y : Int), .pointer (some ⟨B, 0, none⟩)] w fun e w' => e = .returned (.int .u32 (smp S a x y : Nat)) ∧ Q w w' := by
  obtain ⟨c0, c1, c2⟩ := hB
  have a2 := hs.a2
  have b2 := hs.b2
  have HS : Hid (Size a b) := hs
  have HL : Hid (S.length = a * b) := hl
  have HU : Hid (UIs w g o S) := hu
  clear hs hl hu
  go_enter Try.func71, Try.ntmps71
  go_wp2_with fail
  refine (sample_any HS.out HL.out _ _ (x := x) (y := y) (by omega) (by omega) (by omega) (by omega) HU.out).mono ?_
  rintro e w1 ⟨rfl, q1⟩
  go_wp2_with fail
  go_ret
  exact ⟨rfl, q1⟩
end Go.Proofs.Ytkgfohodahkmmaa
