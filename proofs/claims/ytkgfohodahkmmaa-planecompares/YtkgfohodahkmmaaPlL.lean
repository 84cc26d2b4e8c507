/- Planes made greater: the program's Extend; Get. -/
import Derived.Test.YtkgfohodahkmmaaPlK
namespace Go.Proofs.Ytkgfohodahkmmaa
open Go.RowKit
set_option linter.unusedVariables false
set_option linter.unusedSimpArgs false

def mn2 (x y : Int) : Int := if y < x then y else x
def mx2 (x y : Int) : Int := if x < y then y else x
theorem run_min4 {P : Program} (ts : Array TypeId) (t : TypeId) (x y z u : Int) (w : World) : (Builtin.min_ ts t #[.int .i64 x, .int .i64 y, .int .i64 z, .int .i64 u]).run P w = .ok (.int .i64 (mn2 (mn2 (mn2 x y) z) u)) w := by
  unfold mn2
  simp [Builtin.min_, Builtin.min2]
theorem run_max4 {P : Program} (ts : Array TypeId) (t : TypeId) (x y z u : Int) (w : World) : (Builtin.max_ ts t #[.int .i64 x, .int .i64 y, .int .i64 z, .int .i64 u]).run P w = .ok (.int .i64 (mx2 (mx2 (mx2 x y) z) u)) w := by
  unfold mx2
  simp [Builtin.max_, Builtin.max2]
theorem mn4_lt {x y z u : Int} : mn2 (mn2 (mn2 x y) z) u < 0 ↔ x < 0 ∨ y < 0 ∨ z < 0 ∨ u < 0 := by
  unfold mn2
  split <;> split <;> split <;> omega
theorem mx4_gt {x y z u c : Int} : c < mx2 (mx2 (mx2 x y) z) u ↔ c < x ∨ c < y ∨ c < z ∨ c < u := by
  unfold mx2
  split <;> split <;> split <;> omega
/-- What Extend refuses. -/
def extE (k l t r b : Int) (a' b' : Nat) : Int := if k = 1 ∨ k = 2 ∨ k = 3 then (if l < 0 ∨ t < 0 ∨ r < 0 ∨ b < 0 then 52 else if 1024 < l ∨ 1024 < t ∨ 1024 < r ∨ 1024 < b then 50 else if sizeB (l + a' + r) (t + b' + b) = true then 0 else 50) else 53
theorem extE_zero {k l t r b : Int} {a' b' : Nat} (h : extE k l t r b a' b' = 0) : (k = 1 ∨ k = 2 ∨ k = 3) ∧ ∃ L T R B : Nat, l = L ∧ t = T ∧ r = R ∧ b = B ∧ L ≤ 1024 ∧ T ≤ 1024 ∧ R ≤ 1024 ∧ B ≤ 1024 ∧ Size (L + a' + R) (T + b' + B) := by
  unfold extE at h
  by_cases h1 : k = 1 ∨ k = 2 ∨ k = 3
  · rw [if_pos h1] at h
    refine ⟨h1, ?_⟩
    by_cases h2 : l < 0 ∨ t < 0 ∨ r < 0 ∨ b < 0
    · rw [if_pos h2] at h; exact absurd h (by decide)
    · rw [if_neg h2] at h
      by_cases h3 : 1024 < l ∨ 1024 < t ∨ 1024 < r ∨ 1024 < b
      · rw [if_pos h3] at h; exact absurd h (by decide)
      · rw [if_neg h3] at h
        by_cases h4 : sizeB (l + a' + r) (t + b' + b) = true
        · obtain ⟨p, q, e1, e2, hs⟩ := (sizeB_true.1 h4).nat
          refine ⟨l.toNat, t.toNat, r.toNat, b.toNat, by omega, by omega, by omega, by omega, by omega, by omega, by omega, by omega, ?_⟩
          have f1 : l.toNat + a' + r.toNat = p := by omega
          have f2 : t.toNat + b' + b.toNat = q := by omega
          rw [f1, f2]
          exact hs
        · rw [if_neg h4] at h; exact absurd h (by decide)
  · rw [if_neg h1] at h; exact absurd h (by decide)
set_option maxHeartbeats 2000000 in
set_option maxRecDepth 100000 in
theorem ext_kind {a b : Nat} (hs : Size a b) {S : List Nat} (hl : S.length = a * b) (g o cap : Nat) (k l t r1 b1 : Int) (hk : ¬ (k = 1 ∨ k = 2 ∨ k = 3)) (w : World) :
    Calls Try.prog 35 #[.agg #[.int .i64 (a : Int), .int .i64 (b : Int), .slice (some ⟨g, o, none⟩) S.length cap], .int .i64 k, .int .i64 l, .int .i64 t, .int .i64 r1, .int .i64 b1] w (Fails w 53) := by
  have hb : ((0 : Int) != 0) = false := by decide
  have hn : S.length ≤ 9223372036854775807 := by have := hs.ab; omega
  obtain ⟨w1, hw1⟩ : ∃ w1, (((w.alloc (.cells #[.int .i64 (a : Int), .int .i64 (b : Int), .slice (some ⟨g, o, none⟩) S.length cap] 25)).alloc (.cells #[.int .i64 l] 3)).alloc (.cells #[.int .i64 t] 3)).alloc (.cells #[.int .i64 0, .int .i64 0, .slice none 0 0] 25) = w1 := ⟨_, rfl⟩
  have Q1 : Hid (Q w w1) := by rw [← hw1]; exact (((((Q.refl w).cells _ _).cells _ _).cells _ _).cells _ _)
  have S1 : w1.heap.size = w.heap.size + 1 + 1 + 1 + 1 := by rw [← hw1]; simp
  have z00 : w1.cell? ⟨w.heap.size, 0, none⟩ = some (.int .i64 (a : Int)) := by rw [← hw1]; simp [go_sem]
  have z01 : w1.cell? ⟨w.heap.size, 1, none⟩ = some (.int .i64 (b : Int)) := by rw [← hw1]; simp [go_sem]
  have z02 : w1.cell? ⟨w.heap.size, 2, none⟩ = some (.slice (some ⟨g, o, none⟩) S.length cap) := by rw [← hw1]; simp [go_sem]
  have z10 : w1.cell? ⟨w.heap.size + 1, 0, none⟩ = some (.int .i64 l) := by rw [← hw1]; simp [go_sem]
  have z20 : w1.cell? ⟨w.heap.size + 1 + 1, 0, none⟩ = some (.int .i64 t) := by rw [← hw1]; simp [go_sem]
  have z30 : w1.cell? ⟨w.heap.size + 1 + 1 + 1, 0, none⟩ = some (.int .i64 0) := by rw [← hw1]; simp [go_sem]
  have z31 : w1.cell? ⟨w.heap.size + 1 + 1 + 1, 1, none⟩ = some (.int .i64 0) := by rw [← hw1]; simp [go_sem]
  have z32 : w1.cell? ⟨w.heap.size + 1 + 1 + 1, 2, none⟩ = some (.slice none 0 0) := by rw [← hw1]; simp [go_sem]
  have yf : ∀ j, w1.frozen? ⟨w.heap.size + 1 + 1 + 1, j, none⟩ = false := fun j => by rw [← hw1]; simp [go_sem]
  have A := check_any (a : Int) (b : Int) (some ⟨g, o, none⟩) S.length cap hn w1
  rw [show chk (a : Int) (b : Int) S.length = 0 by rw [hl]; exact chk_size hs] at A
  have BO : ∀ w : World, Calls Try.prog 62 #[.int .i64 k] w fun e w' => e = .returned .nilFunc ∧ w' = w := fun w => borderOf_none k hk w
  have f2 := nil_nil
  clear hs hl hn hk
  go_enter Try.func35, Try.ntmps35
  go_wp2_with fail
  refine A.mono ?_
  rintro e w2 ⟨rfl, q2⟩
  replace z00 := q2.cell z00
  replace z01 := q2.cell z01
  replace z02 := q2.cell z02
  replace z10 := q2.cell z10
  replace z20 := q2.cell z20
  replace z30 := q2.cell z30
  replace z31 := q2.cell z31
  replace z32 := q2.cell z32
  have yg : ∀ j, w2.frozen? ⟨w.heap.size + 1 + 1 + 1, j, none⟩ = false := fun j => by rw [q2.2]; exact yf j
  have hsz : w.heap.size + 1 + 1 + 1 + 1 ≤ w2.heap.size := by have := q2.1.size; omega
  clear hw1 A yf S1
  go_wp2_with fail
  refine (BO _).mono ?_
  rintro e w3 ⟨rfl, rfl⟩
  obtain ⟨w4, hw4⟩ : ∃ w4, (w3.alloc (.cells #[.nilFunc] 95)).setCell ⟨w3.heap.size, 0, none⟩ .nilFunc = w4 := ⟨_, rfl⟩
  have q4 : Q w3 w4 := by rw [← hw4]; exact ((Q.refl w3).cells _ _).put (Nat.le_refl _)
  have v0 : w4.cell? ⟨w3.heap.size, 0, none⟩ = some (.nilFunc) := by rw [← hw4]; simp [go_sem]
  replace z00 := q4.cell z00
  replace z01 := q4.cell z01
  replace z02 := q4.cell z02
  replace z10 := q4.cell z10
  replace z20 := q4.cell z20
  replace z30 := q4.cell z30
  replace z31 := q4.cell z31
  replace z32 := q4.cell z32
  have yk : ∀ j, w4.frozen? ⟨w.heap.size + 1 + 1 + 1, j, none⟩ = false := fun j => by rw [q4.2]; exact yg j
  have QW4 : Hid (Q w w4) := (Q1.out.trans q2).trans q4
  have hsz4 : w.heap.size + 1 + 1 + 1 + 1 ≤ w4.heap.size := by have := q4.1.size; omega
  obtain ⟨BF, hBF⟩ : ∃ BF, w3.heap.size = BF := ⟨_, rfl⟩
  rw [hBF] at v0 hw4
  clear q2 q4 yg
  go_wp2_with fail
  refine bodyPost_ret (v := .tuple #[noPl, .int .i64 53]) (by simp [results, Try.results35, go_sem, noPl, z30, z31, z32]) rfl ⟨rfl, ?_⟩
  exact ((QW4.out.put (by omega)).put (by omega)).put (by omega)
set_option maxHeartbeats 2000000 in
set_option maxRecDepth 100000 in
theorem ext_neg {a b : Nat} (hs : Size a b) {S : List Nat} (hl : S.length = a * b) (g o cap : Nat) (k l t r1 b1 : Int) (hk : k = 1 ∨ k = 2 ∨ k = 3) (hm : l < 0 ∨ t < 0 ∨ r1 < 0 ∨ b1 < 0) (w : World) :
    Calls Try.prog 35 #[.agg #[.int .i64 (a : Int), .int .i64 (b : Int), .slice (some ⟨g, o, none⟩) S.length cap], .int .i64 k, .int .i64 l, .int .i64 t, .int .i64 r1, .int .i64 b1] w (Fails w 52) := by
  have hb : ((0 : Int) != 0) = false := by decide
  have hn : S.length ≤ 9223372036854775807 := by have := hs.ab; omega
  obtain ⟨w1, hw1⟩ : ∃ w1, (((w.alloc (.cells #[.int .i64 (a : Int), .int .i64 (b : Int), .slice (some ⟨g, o, none⟩) S.length cap] 25)).alloc (.cells #[.int .i64 l] 3)).alloc (.cells #[.int .i64 t] 3)).alloc (.cells #[.int .i64 0, .int .i64 0, .slice none 0 0] 25) = w1 := ⟨_, rfl⟩
  have Q1 : Hid (Q w w1) := by rw [← hw1]; exact (((((Q.refl w).cells _ _).cells _ _).cells _ _).cells _ _)
  have S1 : w1.heap.size = w.heap.size + 1 + 1 + 1 + 1 := by rw [← hw1]; simp
  have z00 : w1.cell? ⟨w.heap.size, 0, none⟩ = some (.int .i64 (a : Int)) := by rw [← hw1]; simp [go_sem]
  have z01 : w1.cell? ⟨w.heap.size, 1, none⟩ = some (.int .i64 (b : Int)) := by rw [← hw1]; simp [go_sem]
  have z02 : w1.cell? ⟨w.heap.size, 2, none⟩ = some (.slice (some ⟨g, o, none⟩) S.length cap) := by rw [← hw1]; simp [go_sem]
  have z10 : w1.cell? ⟨w.heap.size + 1, 0, none⟩ = some (.int .i64 l) := by rw [← hw1]; simp [go_sem]
  have z20 : w1.cell? ⟨w.heap.size + 1 + 1, 0, none⟩ = some (.int .i64 t) := by rw [← hw1]; simp [go_sem]
  have z30 : w1.cell? ⟨w.heap.size + 1 + 1 + 1, 0, none⟩ = some (.int .i64 0) := by rw [← hw1]; simp [go_sem]
  have z31 : w1.cell? ⟨w.heap.size + 1 + 1 + 1, 1, none⟩ = some (.int .i64 0) := by rw [← hw1]; simp [go_sem]
  have z32 : w1.cell? ⟨w.heap.size + 1 + 1 + 1, 2, none⟩ = some (.slice none 0 0) := by rw [← hw1]; simp [go_sem]
  have yf : ∀ j, w1.frozen? ⟨w.heap.size + 1 + 1 + 1, j, none⟩ = false := fun j => by rw [← hw1]; simp [go_sem]
  have A := check_any (a : Int) (b : Int) (some ⟨g, o, none⟩) S.length cap hn w1
  rw [show chk (a : Int) (b : Int) S.length = 0 by rw [hl]; exact chk_size hs] at A
  have BO : ∀ w : World, Calls Try.prog 62 #[.int .i64 k] w fun e w' => e = .returned (.func (.func (bfn k)) #[] #[]) ∧ w' = w := fun w => borderOf_some k hk w
  generalize bfn k = f at BO
  have f1 := fn_nil
  have hmn : ∀ (ts : Array TypeId) (t' : TypeId) (w : World), (Builtin.min_ ts t' #[.int .i64 l, .int .i64 t, .int .i64 r1, .int .i64 b1]).run Try.prog w = .ok (.int .i64 (mn2 (mn2 (mn2 l t) r1) b1)) w := fun ts t' w => run_min4 ts t' l t r1 b1 w
  have hmx : ∀ (ts : Array TypeId) (t' : TypeId) (w : World), (Builtin.max_ ts t' #[.int .i64 l, .int .i64 t, .int .i64 r1, .int .i64 b1]).run Try.prog w = .ok (.int .i64 (mx2 (mx2 (mx2 l t) r1) b1)) w := fun ts t' w => run_max4 ts t' l t r1 b1 w
  have m1 := mn4_lt.2 hm
  clear hmx
  generalize mn2 (mn2 (mn2 l t) r1) b1 = M at hmn m1
  clear hs hl hn hk hm
  go_enter Try.func35, Try.ntmps35
  go_wp2_with fail
  refine A.mono ?_
  rintro e w2 ⟨rfl, q2⟩
  replace z00 := q2.cell z00
  replace z01 := q2.cell z01
  replace z02 := q2.cell z02
  replace z10 := q2.cell z10
  replace z20 := q2.cell z20
  replace z30 := q2.cell z30
  replace z31 := q2.cell z31
  replace z32 := q2.cell z32
  have yg : ∀ j, w2.frozen? ⟨w.heap.size + 1 + 1 + 1, j, none⟩ = false := fun j => by rw [q2.2]; exact yf j
  have hsz : w.heap.size + 1 + 1 + 1 + 1 ≤ w2.heap.size := by have := q2.1.size; omega
  clear hw1 A yf S1
  go_wp2_with fail
  refine (BO _).mono ?_
  rintro e w3 ⟨rfl, rfl⟩
  obtain ⟨w4, hw4⟩ : ∃ w4, (w3.alloc (.cells #[.nilFunc] 95)).setCell ⟨w3.heap.size, 0, none⟩ (.func (.func f) #[] #[]) = w4 := ⟨_, rfl⟩
  have q4 : Q w3 w4 := by rw [← hw4]; exact ((Q.refl w3).cells _ _).put (Nat.le_refl _)
  have v0 : w4.cell? ⟨w3.heap.size, 0, none⟩ = some ((.func (.func f) #[] #[])) := by rw [← hw4]; simp [go_sem]
  replace z00 := q4.cell z00
  replace z01 := q4.cell z01
  replace z02 := q4.cell z02
  replace z10 := q4.cell z10
  replace z20 := q4.cell z20
  replace z30 := q4.cell z30
  replace z31 := q4.cell z31
  replace z32 := q4.cell z32
  have yk : ∀ j, w4.frozen? ⟨w.heap.size + 1 + 1 + 1, j, none⟩ = false := fun j => by rw [q4.2]; exact yg j
  have QW4 : Hid (Q w w4) := (Q1.out.trans q2).trans q4
  have hsz4 : w.heap.size + 1 + 1 + 1 + 1 ≤ w4.heap.size := by have := q4.1.size; omega
  obtain ⟨BF, hBF⟩ : ∃ BF, w3.heap.size = BF := ⟨_, rfl⟩
  rw [hBF] at v0 hw4
  clear q2 q4 yg
  go_wp2_with fail
  refine bodyPost_ret (v := .tuple #[noPl, .int .i64 52]) (by simp [results, Try.results35, go_sem, noPl, z30, z31, z32]) rfl ⟨rfl, ?_⟩
  exact ((QW4.out.put (by omega)).put (by omega)).put (by omega)
set_option maxHeartbeats 2000000 in
set_option maxRecDepth 100000 in
theorem ext_far {a b : Nat} (hs : Size a b) {S : List Nat} (hl : S.length = a * b) (g o cap : Nat) (k l t r1 b1 : Int) (hk : k = 1 ∨ k = 2 ∨ k = 3) (hm : ¬ (l < 0 ∨ t < 0 ∨ r1 < 0 ∨ b1 < 0)) (hx : 1024 < l ∨ 1024 < t ∨ 1024 < r1 ∨ 1024 < b1) (w : World) :
    Calls Try.prog 35 #[.agg #[.int .i64 (a : Int), .int .i64 (b : Int), .slice (some ⟨g, o, none⟩) S.length cap], .int .i64 k, .int .i64 l, .int .i64 t, .int .i64 r1, .int .i64 b1] w (Fails w 50) := by
  have hb : ((0 : Int) != 0) = false := by decide
  have hn : S.length ≤ 9223372036854775807 := by have := hs.ab; omega
  obtain ⟨w1, hw1⟩ : ∃ w1, (((w.alloc (.cells #[.int .i64 (a : Int), .int .i64 (b : Int), .slice (some ⟨g, o, none⟩) S.length cap] 25)).alloc (.cells #[.int .i64 l] 3)).alloc (.cells #[.int .i64 t] 3)).alloc (.cells #[.int .i64 0, .int .i64 0, .slice none 0 0] 25) = w1 := ⟨_, rfl⟩
  have Q1 : Hid (Q w w1) := by rw [← hw1]; exact (((((Q.refl w).cells _ _).cells _ _).cells _ _).cells _ _)
  have S1 : w1.heap.size = w.heap.size + 1 + 1 + 1 + 1 := by rw [← hw1]; simp
  have z00 : w1.cell? ⟨w.heap.size, 0, none⟩ = some (.int .i64 (a : Int)) := by rw [← hw1]; simp [go_sem]
  have z01 : w1.cell? ⟨w.heap.size, 1, none⟩ = some (.int .i64 (b : Int)) := by rw [← hw1]; simp [go_sem]
  have z02 : w1.cell? ⟨w.heap.size, 2, none⟩ = some (.slice (some ⟨g, o, none⟩) S.length cap) := by rw [← hw1]; simp [go_sem]
  have z10 : w1.cell? ⟨w.heap.size + 1, 0, none⟩ = some (.int .i64 l) := by rw [← hw1]; simp [go_sem]
  have z20 : w1.cell? ⟨w.heap.size + 1 + 1, 0, none⟩ = some (.int .i64 t) := by rw [← hw1]; simp [go_sem]
  have z30 : w1.cell? ⟨w.heap.size + 1 + 1 + 1, 0, none⟩ = some (.int .i64 0) := by rw [← hw1]; simp [go_sem]
  have z31 : w1.cell? ⟨w.heap.size + 1 + 1 + 1, 1, none⟩ = some (.int .i64 0) := by rw [← hw1]; simp [go_sem]
  have z32 : w1.cell? ⟨w.heap.size + 1 + 1 + 1, 2, none⟩ = some (.slice none 0 0) := by rw [← hw1]; simp [go_sem]
  have yf : ∀ j, w1.frozen? ⟨w.heap.size + 1 + 1 + 1, j, none⟩ = false := fun j => by rw [← hw1]; simp [go_sem]
  have A := check_any (a : Int) (b : Int) (some ⟨g, o, none⟩) S.length cap hn w1
  rw [show chk (a : Int) (b : Int) S.length = 0 by rw [hl]; exact chk_size hs] at A
  have BO : ∀ w : World, Calls Try.prog 62 #[.int .i64 k] w fun e w' => e = .returned (.func (.func (bfn k)) #[] #[]) ∧ w' = w := fun w => borderOf_some k hk w
  generalize bfn k = f at BO
  have f1 := fn_nil
  have hmn : ∀ (ts : Array TypeId) (t' : TypeId) (w : World), (Builtin.min_ ts t' #[.int .i64 l, .int .i64 t, .int .i64 r1, .int .i64 b1]).run Try.prog w = .ok (.int .i64 (mn2 (mn2 (mn2 l t) r1) b1)) w := fun ts t' w => run_min4 ts t' l t r1 b1 w
  have hmx : ∀ (ts : Array TypeId) (t' : TypeId) (w : World), (Builtin.max_ ts t' #[.int .i64 l, .int .i64 t, .int .i64 r1, .int .i64 b1]).run Try.prog w = .ok (.int .i64 (mx2 (mx2 (mx2 l t) r1) b1)) w := fun ts t' w => run_max4 ts t' l t r1 b1 w
  have m1 : ¬ mn2 (mn2 (mn2 l t) r1) b1 < 0 := fun h => hm (mn4_lt.1 h)
  have m2 := mx4_gt.2 hx
  generalize mn2 (mn2 (mn2 l t) r1) b1 = M at hmn m1
  generalize mx2 (mx2 (mx2 l t) r1) b1 = M2 at hmx m2
  clear hs hl hn hk hm hx
  go_enter Try.func35, Try.ntmps35
  go_wp2_with fail
  refine A.mono ?_
  rintro e w2 ⟨rfl, q2⟩
  replace z00 := q2.cell z00
  replace z01 := q2.cell z01
  replace z02 := q2.cell z02
  replace z10 := q2.cell z10
  replace z20 := q2.cell z20
  replace z30 := q2.cell z30
  replace z31 := q2.cell z31
  replace z32 := q2.cell z32
  have yg : ∀ j, w2.frozen? ⟨w.heap.size + 1 + 1 + 1, j, none⟩ = false := fun j => by rw [q2.2]; exact yf j
  have hsz : w.heap.size + 1 + 1 + 1 + 1 ≤ w2.heap.size := by have := q2.1.size; omega
  clear hw1 A yf S1
  go_wp2_with fail
  refine (BO _).mono ?_
  rintro e w3 ⟨rfl, rfl⟩
  obtain ⟨w4, hw4⟩ : ∃ w4, (w3.alloc (.cells #[.nilFunc] 95)).setCell ⟨w3.heap.size, 0, none⟩ (.func (.func f) #[] #[]) = w4 := ⟨_, rfl⟩
  have q4 : Q w3 w4 := by rw [← hw4]; exact ((Q.refl w3).cells _ _).put (Nat.le_refl _)
  have v0 : w4.cell? ⟨w3.heap.size, 0, none⟩ = some ((.func (.func f) #[] #[])) := by rw [← hw4]; simp [go_sem]
  replace z00 := q4.cell z00
  replace z01 := q4.cell z01
  replace z02 := q4.cell z02
  replace z10 := q4.cell z10
  replace z20 := q4.cell z20
  replace z30 := q4.cell z30
  replace z31 := q4.cell z31
  replace z32 := q4.cell z32
  have yk : ∀ j, w4.frozen? ⟨w.heap.size + 1 + 1 + 1, j, none⟩ = false := fun j => by rw [q4.2]; exact yg j
  have QW4 : Hid (Q w w4) := (Q1.out.trans q2).trans q4
  have hsz4 : w.heap.size + 1 + 1 + 1 + 1 ≤ w4.heap.size := by have := q4.1.size; omega
  obtain ⟨BF, hBF⟩ : ∃ BF, w3.heap.size = BF := ⟨_, rfl⟩
  rw [hBF] at v0 hw4
  clear q2 q4 yg
  go_wp2_with fail
  refine bodyPost_ret (v := .tuple #[noPl, .int .i64 50]) (by simp [results, Try.results35, go_sem, noPl, z30, z31, z32]) rfl ⟨rfl, ?_⟩
  exact ((QW4.out.put (by omega)).put (by omega)).put (by omega)
set_option maxHeartbeats 2000000 in
set_option maxRecDepth 100000 in
theorem ext_size {a b : Nat} (hs : Size a b) {S : List Nat} (hl : S.length = a * b) (g o cap : Nat) (k l t r1 b1 : Int) (hk : k = 1 ∨ k = 2 ∨ k = 3) (hm : ¬ (l < 0 ∨ t < 0 ∨ r1 < 0 ∨ b1 < 0)) (hx : ¬ (1024 < l ∨ 1024 < t ∨ 1024 < r1 ∨ 1024 < b1)) (hz : sizeB (l + a + r1) (t + b + b1) = false) (w : World) :
    Calls Try.prog 35 #[.agg #[.int .i64 (a : Int), .int .i64 (b : Int), .slice (some ⟨g, o, none⟩) S.length cap], .int .i64 k, .int .i64 l, .int .i64 t, .int .i64 r1, .int .i64 b1] w (Fails w 50) := by
  have hb : ((0 : Int) != 0) = false := by decide
  have hn : S.length ≤ 9223372036854775807 := by have := hs.ab; omega
  obtain ⟨w1, hw1⟩ : ∃ w1, (((w.alloc (.cells #[.int .i64 (a : Int), .int .i64 (b : Int), .slice (some ⟨g, o, none⟩) S.length cap] 25)).alloc (.cells #[.int .i64 l] 3)).alloc (.cells #[.int .i64 t] 3)).alloc (.cells #[.int .i64 0, .int .i64 0, .slice none 0 0] 25) = w1 := ⟨_, rfl⟩
  have Q1 : Hid (Q w w1) := by rw [← hw1]; exact (((((Q.refl w).cells _ _).cells _ _).cells _ _).cells _ _)
  have S1 : w1.heap.size = w.heap.size + 1 + 1 + 1 + 1 := by rw [← hw1]; simp
  have z00 : w1.cell? ⟨w.heap.size, 0, none⟩ = some (.int .i64 (a : Int)) := by rw [← hw1]; simp [go_sem]
  have z01 : w1.cell? ⟨w.heap.size, 1, none⟩ = some (.int .i64 (b : Int)) := by rw [← hw1]; simp [go_sem]
  have z02 : w1.cell? ⟨w.heap.size, 2, none⟩ = some (.slice (some ⟨g, o, none⟩) S.length cap) := by rw [← hw1]; simp [go_sem]
  have z10 : w1.cell? ⟨w.heap.size + 1, 0, none⟩ = some (.int .i64 l) := by rw [← hw1]; simp [go_sem]
  have z20 : w1.cell? ⟨w.heap.size + 1 + 1, 0, none⟩ = some (.int .i64 t) := by rw [← hw1]; simp [go_sem]
  have z30 : w1.cell? ⟨w.heap.size + 1 + 1 + 1, 0, none⟩ = some (.int .i64 0) := by rw [← hw1]; simp [go_sem]
  have z31 : w1.cell? ⟨w.heap.size + 1 + 1 + 1, 1, none⟩ = some (.int .i64 0) := by rw [← hw1]; simp [go_sem]
  have z32 : w1.cell? ⟨w.heap.size + 1 + 1 + 1, 2, none⟩ = some (.slice none 0 0) := by rw [← hw1]; simp [go_sem]
  have yf : ∀ j, w1.frozen? ⟨w.heap.size + 1 + 1 + 1, j, none⟩ = false := fun j => by rw [← hw1]; simp [go_sem]
  have A := check_any (a : Int) (b : Int) (some ⟨g, o, none⟩) S.length cap hn w1
  rw [show chk (a : Int) (b : Int) S.length = 0 by rw [hl]; exact chk_size hs] at A
  have BO : ∀ w : World, Calls Try.prog 62 #[.int .i64 k] w fun e w' => e = .returned (.func (.func (bfn k)) #[] #[]) ∧ w' = w := fun w => borderOf_some k hk w
  generalize bfn k = f at BO
  have f1 := fn_nil
  have hmn : ∀ (ts : Array TypeId) (t' : TypeId) (w : World), (Builtin.min_ ts t' #[.int .i64 l, .int .i64 t, .int .i64 r1, .int .i64 b1]).run Try.prog w = .ok (.int .i64 (mn2 (mn2 (mn2 l t) r1) b1)) w := fun ts t' w => run_min4 ts t' l t r1 b1 w
  have hmx : ∀ (ts : Array TypeId) (t' : TypeId) (w : World), (Builtin.max_ ts t' #[.int .i64 l, .int .i64 t, .int .i64 r1, .int .i64 b1]).run Try.prog w = .ok (.int .i64 (mx2 (mx2 (mx2 l t) r1) b1)) w := fun ts t' w => run_max4 ts t' l t r1 b1 w
  have m1 : ¬ mn2 (mn2 (mn2 l t) r1) b1 < 0 := fun h => hm (mn4_lt.1 h)
  have m2 : ¬ 1024 < mx2 (mx2 (mx2 l t) r1) b1 := fun h => hx (mx4_gt.1 h)
  generalize mn2 (mn2 (mn2 l t) r1) b1 = M at hmn m1
  generalize mx2 (mx2 (mx2 l t) r1) b1 = M2 at hmx m2
  have B : ∀ w : World, Calls Try.prog 42 #[.int .i64 (l + a + r1), .int .i64 (t + b + b1)] w fun e w' => e = .returned (.bool false) ∧ w' = w := fun w => hz ▸ isSize_any (l + a + r1) (t + b + b1) w
  have a2 := hs.a2
  have b2 := hs.b2
  have v1 : IntKind.i64.wrap (l + a) = l + a := by rw [IntKind.wrap_i64]; omega
  have v2 : IntKind.i64.wrap (l + a + r1) = l + a + r1 := by rw [IntKind.wrap_i64]; omega
  have v3 : IntKind.i64.wrap (t + b) = t + b := by rw [IntKind.wrap_i64]; omega
  have v4 : IntKind.i64.wrap (t + b + b1) = t + b + b1 := by rw [IntKind.wrap_i64]; omega
  clear hs hl hn hk hm hx hz
  go_enter Try.func35, Try.ntmps35
  go_wp2_with fail
  refine A.mono ?_
  rintro e w2 ⟨rfl, q2⟩
  replace z00 := q2.cell z00
  replace z01 := q2.cell z01
  replace z02 := q2.cell z02
  replace z10 := q2.cell z10
  replace z20 := q2.cell z20
  replace z30 := q2.cell z30
  replace z31 := q2.cell z31
  replace z32 := q2.cell z32
  have yg : ∀ j, w2.frozen? ⟨w.heap.size + 1 + 1 + 1, j, none⟩ = false := fun j => by rw [q2.2]; exact yf j
  have hsz : w.heap.size + 1 + 1 + 1 + 1 ≤ w2.heap.size := by have := q2.1.size; omega
  clear hw1 A yf S1
  go_wp2_with fail
  refine (BO _).mono ?_
  rintro e w3 ⟨rfl, rfl⟩
  obtain ⟨w4, hw4⟩ : ∃ w4, (w3.alloc (.cells #[.nilFunc] 95)).setCell ⟨w3.heap.size, 0, none⟩ (.func (.func f) #[] #[]) = w4 := ⟨_, rfl⟩
  have q4 : Q w3 w4 := by rw [← hw4]; exact ((Q.refl w3).cells _ _).put (Nat.le_refl _)
  have v0 : w4.cell? ⟨w3.heap.size, 0, none⟩ = some ((.func (.func f) #[] #[])) := by rw [← hw4]; simp [go_sem]
  replace z00 := q4.cell z00
  replace z01 := q4.cell z01
  replace z02 := q4.cell z02
  replace z10 := q4.cell z10
  replace z20 := q4.cell z20
  replace z30 := q4.cell z30
  replace z31 := q4.cell z31
  replace z32 := q4.cell z32
  have yk : ∀ j, w4.frozen? ⟨w.heap.size + 1 + 1 + 1, j, none⟩ = false := fun j => by rw [q4.2]; exact yg j
  have QW4 : Hid (Q w w4) := (Q1.out.trans q2).trans q4
  have hsz4 : w.heap.size + 1 + 1 + 1 + 1 ≤ w4.heap.size := by have := q4.1.size; omega
  obtain ⟨BF, hBF⟩ : ∃ BF, w3.heap.size = BF := ⟨_, rfl⟩
  rw [hBF] at v0 hw4
  clear q2 q4 yg
  go_wp2_with fail
  have n0 := qw_some w4
  have d00 := qw_cell z00
  have d01 := qw_cell z01
  have d10 := qw_cell z10
  have d20 := qw_cell z20
  refine wp_region_quiet_Q (by kernel_rfl) (by kernel_rfl) ?_
  repeat (first | go_big_quiet_step (fail) | quiet_step (fail))
  refine wpQuiet_nil ?_
  intro w5 hw'
  have q5 := qw_out hw'
  clear hw' d00 d01 d10 d20 n0
  replace z00 := q5.cell z00
  replace z01 := q5.cell z01
  replace z02 := q5.cell z02
  replace z10 := q5.cell z10
  replace z20 := q5.cell z20
  replace z30 := q5.cell z30
  replace z31 := q5.cell z31
  replace z32 := q5.cell z32
  replace v0 := q5.cell v0
  replace yk : ∀ j, w5.frozen? ⟨w.heap.size + 1 + 1 + 1, j, none⟩ = false := fun j => by rw [q5.2]; exact yk j
  replace QW4 : Hid (Q w w5) := QW4.out.trans q5
  replace hsz4 : w.heap.size + 1 + 1 + 1 + 1 ≤ w5.heap.size := by have := q5.1.size; omega
  clear q5 hw4
  go_wp2_with fail
  refine (B _).mono ?_
  rintro e w6 ⟨rfl, rfl⟩
  go_wp2_with fail
  refine bodyPost_ret (v := .tuple #[noPl, .int .i64 50]) (by simp [results, Try.results35, go_sem, noPl, z30, z31, z32]) rfl ⟨rfl, ?_⟩
  exact ((QW4.out.put (by omega)).put (by omega)).put (by omega)
set_option maxHeartbeats 4000000 in
set_option maxRecDepth 100000 in
theorem ext_good {a b : Nat} (hs : Size a b) {S : List Nat} (hl : S.length = a * b) (g o cap : Nat) (k : Int) (l t r1 b1 : Nat) (hk : k = 1 ∨ k = 2 ∨ k = 3) (l2 : l ≤ 1024) (t2 : t ≤ 1024) (r2 : r1 ≤ 1024) (bb2 : b1 ≤ 1024) (hz : Size (l + a + r1) (t + b + b1)) (w : World) (hu : UIs w g o S) :
    Calls Try.prog 35 #[.agg #[.int .i64 (a : Int), .int .i64 (b : Int), .slice (some ⟨g, o, none⟩) S.length cap], .int .i64 k, .int .i64 (l : Int), .int .i64 (t : Int), .int .i64 (r1 : Int), .int .i64 (b1 : Int)] w (Made w (l + a + r1) (t + b + b1) (tab (l + a + r1) (t + b + b1) (extV S a b k l t))) := by
  have hb : ((0 : Int) != 0) = false := by decide
  have hn : S.length ≤ 9223372036854775807 := by have := hs.ab; omega
  obtain ⟨w1, hw1⟩ : ∃ w1, (((w.alloc (.cells #[.int .i64 (a : Int), .int .i64 (b : Int), .slice (some ⟨g, o, none⟩) S.length cap] 25)).alloc (.cells #[.int .i64 (l : Int)] 3)).alloc (.cells #[.int .i64 (t : Int)] 3)).alloc (.cells #[.int .i64 0, .int .i64 0, .slice none 0 0] 25) = w1 := ⟨_, rfl⟩
  have Q1 : Hid (Q w w1) := by rw [← hw1]; exact (((((Q.refl w).cells _ _).cells _ _).cells _ _).cells _ _)
  have S1 : w1.heap.size = w.heap.size + 1 + 1 + 1 + 1 := by rw [← hw1]; simp
  have z00 : w1.cell? ⟨w.heap.size, 0, none⟩ = some (.int .i64 (a : Int)) := by rw [← hw1]; simp [go_sem]
  have z01 : w1.cell? ⟨w.heap.size, 1, none⟩ = some (.int .i64 (b : Int)) := by rw [← hw1]; simp [go_sem]
  have z02 : w1.cell? ⟨w.heap.size, 2, none⟩ = some (.slice (some ⟨g, o, none⟩) S.length cap) := by rw [← hw1]; simp [go_sem]
  have z10 : w1.cell? ⟨w.heap.size + 1, 0, none⟩ = some (.int .i64 (l : Int)) := by rw [← hw1]; simp [go_sem]
  have z20 : w1.cell? ⟨w.heap.size + 1 + 1, 0, none⟩ = some (.int .i64 (t : Int)) := by rw [← hw1]; simp [go_sem]
  have z30 : w1.cell? ⟨w.heap.size + 1 + 1 + 1, 0, none⟩ = some (.int .i64 0) := by rw [← hw1]; simp [go_sem]
  have z31 : w1.cell? ⟨w.heap.size + 1 + 1 + 1, 1, none⟩ = some (.int .i64 0) := by rw [← hw1]; simp [go_sem]
  have z32 : w1.cell? ⟨w.heap.size + 1 + 1 + 1, 2, none⟩ = some (.slice none 0 0) := by rw [← hw1]; simp [go_sem]
  have yf : ∀ j, w1.frozen? ⟨w.heap.size + 1 + 1 + 1, j, none⟩ = false := fun j => by rw [← hw1]; simp [go_sem]
  have A := check_any (a : Int) (b : Int) (some ⟨g, o, none⟩) S.length cap hn w1
  rw [show chk (a : Int) (b : Int) S.length = 0 by rw [hl]; exact chk_size hs] at A
  have BO : ∀ w : World, Calls Try.prog 62 #[.int .i64 k] w fun e w' => e = .returned (.func (.func (bfn k)) #[] #[]) ∧ w' = w := fun w => borderOf_some k hk w
  have f1 := fn_nil
  have hmn : ∀ (ts : Array TypeId) (t' : TypeId) (w : World), (Builtin.min_ ts t' #[.int .i64 (l : Int), .int .i64 (t : Int), .int .i64 (r1 : Int), .int .i64 (b1 : Int)]).run Try.prog w = .ok (.int .i64 (mn2 (mn2 (mn2 l t) r1) b1)) w := fun ts t' w => run_min4 ts t' l t r1 b1 w
  have hmx : ∀ (ts : Array TypeId) (t' : TypeId) (w : World), (Builtin.max_ ts t' #[.int .i64 (l : Int), .int .i64 (t : Int), .int .i64 (r1 : Int), .int .i64 (b1 : Int)]).run Try.prog w = .ok (.int .i64 (mx2 (mx2 (mx2 l t) r1) b1)) w := fun ts t' w => run_max4 ts t' l t r1 b1 w
  have E := bfn_enters k hk
  have HE : Hid (bfn k = bfn k) := rfl
  have m1 : ¬ mn2 (mn2 (mn2 l t) r1) b1 < 0 := fun h => by rcases mn4_lt.1 h with h | h | h | h <;> omega
  have m2 : ¬ 1024 < mx2 (mx2 (mx2 l t) r1) b1 := fun h => by rcases mx4_gt.1 h with h | h | h | h <;> omega
  generalize mn2 (mn2 (mn2 (l : Int) t) r1) b1 = M at hmn m1
  generalize mx2 (mx2 (mx2 (l : Int) t) r1) b1 = M2 at hmx m2
  have hz2 : sizeB ((l : Int) + a + r1) ((t : Int) + b + b1) = true := by
    have := hz.b
    exact sizeB_true.2 (by simpa using this)
  have B : ∀ w : World, Calls Try.prog 42 #[.int .i64 ((l : Int) + a + r1), .int .i64 ((t : Int) + b + b1)] w fun e w' => e = .returned (.bool true) ∧ w' = w := fun w => hz2 ▸ isSize_any ((l : Int) + a + r1) ((t : Int) + b + b1) w
  have a2 := hs.a2
  have b2 := hs.b2
  obtain ⟨PW, hPW⟩ : ∃ PW : Nat, l + a + r1 = PW := ⟨_, rfl⟩
  obtain ⟨PH, hPH⟩ : ∃ PH : Nat, t + b + b1 = PH := ⟨_, rfl⟩
  have cPW : (l : Int) + a + r1 = PW := by omega
  have cPH : (t : Int) + b + b1 = PH := by omega
  have v1 : IntKind.i64.wrap ((l : Int) + a) = (l : Int) + a := by rw [IntKind.wrap_i64]; omega
  have v2 : IntKind.i64.wrap ((l : Int) + a + r1) = PW := by rw [IntKind.wrap_i64]; omega
  have v3 : IntKind.i64.wrap ((t : Int) + b) = (t : Int) + b := by rw [IntKind.wrap_i64]; omega
  have v4 : IntKind.i64.wrap ((t : Int) + b + b1) = PH := by rw [IntKind.wrap_i64]; omega
  rw [cPW, cPH] at B
  rw [hPW, hPH]
  rw [hPW, hPH] at hz
  have HS : Hid (Size a b) := hs
  have HL : Hid (S.length = a * b) := hl
  have HU : Hid (UIs w g o S) := hu
  have HZ : Hid (Size PW PH) := hz
  have HK : Hid (k = 1 ∨ k = 2 ∨ k = 3) := hk
  have HW : Hid (PW ≤ 4096 ∧ PH ≤ 4096) := by constructor <;> omega
  clear hs hl hn hz hz2 hu hk hPW hPH
  go_enter Try.func35, Try.ntmps35
  go_wp2_with fail
  refine A.mono ?_
  rintro e w2 ⟨rfl, q2⟩
  replace z00 := q2.cell z00
  replace z01 := q2.cell z01
  replace z02 := q2.cell z02
  replace z10 := q2.cell z10
  replace z20 := q2.cell z20
  replace z30 := q2.cell z30
  replace z31 := q2.cell z31
  replace z32 := q2.cell z32
  have yg : ∀ j, w2.frozen? ⟨w.heap.size + 1 + 1 + 1, j, none⟩ = false := fun j => by rw [q2.2]; exact yf j
  have hsz : w.heap.size + 1 + 1 + 1 + 1 ≤ w2.heap.size := by have := q2.1.size; omega
  clear hw1 A yf S1
  go_wp2_with fail
  refine (BO _).mono ?_
  rintro e w3 ⟨rfl, rfl⟩
  obtain ⟨w4, hw4⟩ : ∃ w4, (w3.alloc (.cells #[.nilFunc] 95)).setCell ⟨w3.heap.size, 0, none⟩ (.func (.func (bfn k)) #[] #[]) = w4 := ⟨_, rfl⟩
  have q4 : Q w3 w4 := by rw [← hw4]; exact ((Q.refl w3).cells _ _).put (Nat.le_refl _)
  have v0 : w4.cell? ⟨w3.heap.size, 0, none⟩ = some ((.func (.func (bfn k)) #[] #[])) := by rw [← hw4]; simp [go_sem]
  replace z00 := q4.cell z00
  replace z01 := q4.cell z01
  replace z02 := q4.cell z02
  replace z10 := q4.cell z10
  replace z20 := q4.cell z20
  replace z30 := q4.cell z30
  replace z31 := q4.cell z31
  replace z32 := q4.cell z32
  have yk : ∀ j, w4.frozen? ⟨w.heap.size + 1 + 1 + 1, j, none⟩ = false := fun j => by rw [q4.2]; exact yg j
  have QW4 : Hid (Q w w4) := (Q1.out.trans q2).trans q4
  have hsz4 : w.heap.size + 1 + 1 + 1 + 1 ≤ w4.heap.size := by have := q4.1.size; omega
  obtain ⟨BF, hBF⟩ : ∃ BF, w3.heap.size = BF := ⟨_, rfl⟩
  rw [hBF] at v0 hw4
  clear q2 q4 yg
  go_wp2_with fail
  have n0 := qw_some w4
  have d00 := qw_cell z00
  have d01 := qw_cell z01
  have d10 := qw_cell z10
  have d20 := qw_cell z20
  refine wp_region_quiet_Q (by kernel_rfl) (by kernel_rfl) ?_
  repeat (first | go_big_quiet_step (fail) | quiet_step (fail))
  refine wpQuiet_nil ?_
  intro w5 hw'
  have q5 := qw_out hw'
  clear hw' d00 d01 d10 d20 n0
  replace z00 := q5.cell z00
  replace z01 := q5.cell z01
  replace z02 := q5.cell z02
  replace z10 := q5.cell z10
  replace z20 := q5.cell z20
  replace z30 := q5.cell z30
  replace z31 := q5.cell z31
  replace z32 := q5.cell z32
  replace v0 := q5.cell v0
  replace yk : ∀ j, w5.frozen? ⟨w.heap.size + 1 + 1 + 1, j, none⟩ = false := fun j => by rw [q5.2]; exact yk j
  replace QW4 : Hid (Q w w5) := QW4.out.trans q5
  replace hsz4 : w.heap.size + 1 + 1 + 1 + 1 ≤ w5.heap.size := by have := q5.1.size; omega
  clear q5 hw4
  go_wp2_with fail
  refine (B _).mono ?_
  rintro e w6 ⟨rfl, rfl⟩
  go_wp2_with fail
  refine (lay_any PW PH HZ.out 64 #[.pointer (some ⟨w.heap.size, 0, none⟩), .pointer (some ⟨BF, 0, none⟩), .pointer (some ⟨w.heap.size + 1, 0, none⟩), .pointer (some ⟨w.heap.size + 1 + 1, 0, none⟩)] (enters_of Try.func64 (by kernel_rfl) rfl) (extV S a b k l t) w6 ?_).mono ?_
  · intro x y w' hx hy hq
    have := HW.out
    exact ext1_any HS.out HL.out HK.out (by omega) (by omega) (by omega) (by omega) (by omega) (by omega) (PBox.next ⟨z00, z01, z02⟩ hq) (HU.out.next (QW4.out.trans hq)) (hq.cell v0) (hq.cell z10) (hq.cell z20)
  rintro e w7 ⟨g3, rfl, O3⟩
  have q7 := O3.q
  replace z30 := q7.cell z30
  replace z31 := q7.cell z31
  replace z32 := q7.cell z32
  have yh : ∀ j, w7.frozen? ⟨w.heap.size + 1 + 1 + 1, j, none⟩ = false := fun j => by rw [q7.2]; exact yk j
  have hg : g3 ≠ w.heap.size + 1 + 1 + 1 := by
    have h1 := O3.new
    omega
  have HO : Hid (Own w w7 g3 (tab PW PH (extV S a b k l t))) := O3.base QW4.out
  clear O3 q7 yk
  go_wp2_with fail
  refine bodyPost_ret (v := .tuple #[.agg #[.int .i64 (PW : Int), .int .i64 (PH : Int), .slice (some ⟨g3, 0, none⟩) (PW * PH) (PW * PH)], .int .i64 0]) (by simp [results, Try.results35, go_sem, z30, z31, z32]) rfl ⟨g3, rfl, ?_⟩
  exact ((HO.out.set (by omega) (fun e => hg e.symm)).set (by omega) (fun e => hg e.symm)).set (by omega) (fun e => hg e.symm)
end Go.Proofs.Ytkgfohodahkmmaa
