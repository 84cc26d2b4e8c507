/- Sizes, borders: the program's and the document's. -/
import Derived.Test.YtcolhgngiflkhaaG9907aa2c
import Derived.Test.YtcolhgngiflkhaaGae8318a2
import Derived.Test.YtcolhgngiflkhaaGb54a6e1b
namespace Go.Proofs.Ytcolhgngiflkhaa
open Go.RowKit
set_option linter.unusedVariables false
set_option linter.unusedSimpArgs false

def sizeB (W H : Int) : Bool := decide (1 ≤ W) && decide (W ≤ 1024) && decide (1 ≤ H) && decide (H ≤ 1024) && decide (W * H ≤ 65536)
theorem sizeB_true {W H : Int} : sizeB W H = true ↔ SizeB W H := by
  unfold sizeB SizeB
  simp only [Bool.and_eq_true, decide_eq_true_eq]
  constructor
  · rintro ⟨⟨⟨⟨a, b⟩, c⟩, d⟩, e⟩; exact ⟨a, b, c, d, e⟩
  · rintro ⟨a, b, c, d, e⟩; exact ⟨⟨⟨⟨a, b⟩, c⟩, d⟩, e⟩
theorem sizeB_false {W H : Int} (h : ¬ SizeB W H) : sizeB W H = false := by
  cases g : sizeB W H
  · rfl
  · exact absurd (sizeB_true.1 g) h
def sideB (n : Int) : Bool := decide (1 ≤ n) && decide (n ≤ 1024)
theorem sizeB_eq (W H : Int) : sizeB W H = (sideB W && (sideB H && decide (W * H ≤ 65536))) := by
  unfold sizeB sideB
  cases decide (1 ≤ W) <;> cases decide (W ≤ 1024) <;> cases decide (1 ≤ H) <;> cases decide (H ≤ 1024) <;> rfl
theorem sideB_true {n : Int} : sideB n = true ↔ 1 ≤ n ∧ n ≤ 1024 := by
  unfold sideB; simp
theorem area_le {a b : Int} (ha : 1 ≤ a ∧ a ≤ 1024) (hb : 1 ≤ b ∧ b ≤ 1024) : 1 ≤ a * b ∧ a * b ≤ 1048576 := by
  have h1 : a * b ≤ 1024 * b := Int.mul_le_mul_of_nonneg_right ha.2 (by omega)
  have h2 : 1 * b ≤ a * b := Int.mul_le_mul_of_nonneg_right ha.1 (by omega)
  omega

theorem isSide_any (n : Int) (w : World) : Calls Try.prog 38 #[.int .i64 n] w fun e w' => e = .returned (.bool (sideB n)) ∧ w' = w := by
  by_cases h1 : 1 ≤ n
  · by_cases h2 : n ≤ 1024
    · have e : sideB n = true := sideB_true.2 ⟨h1, h2⟩
      rw [e]
      clear e
      go_enter Try.func38, Try.ntmps38
      go_wp2_with fail
      go_ret
      exact ⟨rfl, rfl⟩
    · have e : sideB n = false := by unfold sideB; simp [h2]
      rw [e]
      clear e
      go_enter Try.func38, Try.ntmps38
      go_wp2_with fail
      go_ret
      exact ⟨rfl, rfl⟩
  · have e : sideB n = false := by unfold sideB; simp [h1]
    rw [e]
    clear e
    go_enter Try.func38, Try.ntmps38
    go_wp2_with fail
    go_ret
    exact ⟨rfl, rfl⟩
theorem isSize_any (W H : Int) (w : World) : Calls Try.prog 31 #[.int .i64 W, .int .i64 H] w fun e w' => e = .returned (.bool (sizeB W H)) ∧ w' = w := by
  rw [sizeB_eq]
  cases hW : sideB W
  · have A : Calls Try.prog 38 #[.int .i64 W] w fun e w' => e = .returned (.bool false) ∧ w' = w := hW ▸ isSide_any W w
    go_enter Try.func31, Try.ntmps31
    go_wp2_with (go_at_call 38; refine A.mono ?_; rintro e w1 ⟨rfl, rfl⟩)
    go_ret
    exact ⟨rfl, rfl⟩
  · have A : Calls Try.prog 38 #[.int .i64 W] w fun e w' => e = .returned (.bool true) ∧ w' = w := hW ▸ isSide_any W w
    cases hH : sideB H
    · have B : Calls Try.prog 38 #[.int .i64 H] w fun e w' => e = .returned (.bool false) ∧ w' = w := hH ▸ isSide_any H w
      go_enter Try.func31, Try.ntmps31
      go_wp2_with fail
      refine A.mono ?_
      rintro e w1 ⟨rfl, rfl⟩
      go_wp2_with fail
      refine B.mono ?_
      rintro e w1 ⟨rfl, rfl⟩
      go_wp2_with fail
      go_ret
      exact ⟨rfl, rfl⟩
    · have B : Calls Try.prog 38 #[.int .i64 H] w fun e w' => e = .returned (.bool true) ∧ w' = w := hH ▸ isSide_any H w
      have h1 := sideB_true.1 hW
      have h2 := sideB_true.1 hH
      have h3 := area_le h1 h2
      clear hW hH
      by_cases h4 : W * H ≤ 65536
      · rw [decide_eq_true h4]
        generalize hA : W * H = A0 at h3 h4
        go_enter Try.func31, Try.ntmps31
        go_wp2_with fail
        refine A.mono ?_
        rintro e w1 ⟨rfl, rfl⟩
        go_wp2_with fail
        refine B.mono ?_
        rintro e w1 ⟨rfl, rfl⟩
        go_wp2_with fail
        go_ret
        exact ⟨rfl, rfl⟩
      · rw [decide_eq_false h4]
        generalize hA : W * H = A0 at h3 h4
        have h5 : decide (A0 ≤ 65536) = false := decide_eq_false h4
        go_enter Try.func31, Try.ntmps31
        go_wp2_with fail
        refine A.mono ?_
        rintro e w1 ⟨rfl, rfl⟩
        go_wp2_with fail
        refine B.mono ?_
        rintro e w1 ⟨rfl, rfl⟩
        go_wp2_with fail
        go_ret
        exact ⟨rfl, rfl⟩

/-- What is wrong with a plane. -/
def chk (W H : Int) (n : Nat) : Int := if sizeB W H = true then (if (n : Int) = W * H then 0 else 51) else 50
theorem chk_bad {W H : Int} {n : Nat} (h : sizeB W H = false) : chk W H n = 50 := by unfold chk; rw [h]; rfl
theorem chk_count {W H : Int} {n : Nat} (h : sizeB W H = true) (hn : (n : Int) ≠ W * H) : chk W H n = 51 := by unfold chk; rw [if_pos h, if_neg hn]
theorem chk_ok {W H : Int} {n : Nat} (h : sizeB W H = true) (hn : (n : Int) = W * H) : chk W H n = 0 := by unfold chk; rw [if_pos h, if_pos hn]
theorem chk_zero {W H : Int} {n : Nat} (h : chk W H n = 0) : ∃ a b : Nat, W = a ∧ H = b ∧ Size a b ∧ n = a * b := by
  unfold chk at h
  by_cases g : sizeB W H = true
  · rw [if_pos g] at h
    by_cases g2 : (n : Int) = W * H
    · obtain ⟨a, b, rfl, rfl, hs⟩ := (sizeB_true.1 g).nat
      refine ⟨a, b, rfl, rfl, hs, ?_⟩
      rw [← Int.natCast_mul] at g2
      omega
    · rw [if_neg g2] at h; exact absurd h (by decide)
  · rw [if_neg g] at h; exact absurd h (by decide)
theorem chk_size {a b : Nat} (h : Size a b) : chk a b (a * b) = 0 := chk_ok (sizeB_true.2 h.b) (by rw [Int.natCast_mul])
theorem chk_cases (W H : Int) (n : Nat) : chk W H n = 50 ∨ chk W H n = 51 ∨ chk W H n = 0 := by
  unfold chk; split
  · split <;> simp
  · simp
set_option maxHeartbeats 1000000 in
theorem check_any (W H : Int) (a : Option Addr) (n c : Nat) (hn : n ≤ 9223372036854775807) (w : World) :
    Calls Try.prog 25 #[.agg #[.int .i64 W, .int .i64 H, .slice a n c]] w fun e w' => e = .returned (.int .i64 (chk W H n)) ∧ Q w w' := by
  have q0 : ∀ c t, Q w (w.alloc (.cells c t)) := fun c t => (Q.refl w).cells c t
  have Q0 : Hid (∀ c t, Q w (w.alloc (.cells c t))) := q0
  clear q0
  cases hS : sizeB W H
  · have A : ∀ w : World, Calls Try.prog 31 #[.int .i64 W, .int .i64 H] w fun e w' => e = .returned (.bool false) ∧ w' = w := fun w => hS ▸ isSize_any W H w
    rw [chk_bad hS]
    clear hS
    go_enter Try.func25, Try.ntmps25
    go_wp2_with (go_at_call 31; refine (A _).mono ?_; rintro e w1 ⟨rfl, rfl⟩)
    go_ret
    exact ⟨rfl, Q0.out _ _⟩
  · have A : ∀ w : World, Calls Try.prog 31 #[.int .i64 W, .int .i64 H] w fun e w' => e = .returned (.bool true) ∧ w' = w := fun w => hS ▸ isSize_any W H w
    obtain ⟨h1, h2, h3, h4, h5⟩ := sizeB_true.1 hS
    have h6 := area_le ⟨h1, h2⟩ ⟨h3, h4⟩
    by_cases hc : (n : Int) = W * H
    · rw [chk_ok hS hc]
      have hw : IntKind.i64.wrap (W * H) = W * H := by rw [IntKind.wrap_i64]; omega
      have hb : ((n : Int) == W * H) = true := by rw [hc]; simp
      have hb2 : ((n : Int) != W * H) = false := by rw [hc]; simp
      clear hS hc h5 h6 h1 h2 h3 h4
      go_enter Try.func25, Try.ntmps25
      go_wp2_with (go_at_call 31; refine (A _).mono ?_; rintro e w1 ⟨rfl, rfl⟩)
      go_ret
      exact ⟨rfl, Q0.out _ _⟩
    · rw [chk_count hS hc]
      have hw : IntKind.i64.wrap (W * H) = W * H := by rw [IntKind.wrap_i64]; omega
      have hb : ((n : Int) == W * H) = false := by rw [beq_eq_false_iff_ne]; exact hc
      have hb2 : ((n : Int) != W * H) = true := by rw [bne_iff_ne]; exact hc
      clear hS hc h5 h6 h1 h2 h3 h4
      go_enter Try.func25, Try.ntmps25
      go_wp2_with (go_at_call 31; refine (A _).mono ?_; rintro e w1 ⟨rfl, rfl⟩)
      go_ret
      exact ⟨rfl, Q0.out _ _⟩

theorem tmod_mod (i n : Int) (hn : 0 < n) : (0 ≤ Int.tmod i n → Int.tmod i n = i % n) ∧ (Int.tmod i n < 0 → Int.tmod i n + n = i % n) ∧ -n < Int.tmod i n ∧ Int.tmod i n < n := by
  have e : n * Int.tdiv i n + Int.tmod i n = i := Int.mul_tdiv_add_tmod i n
  have l1 := Int.tmod_lt_of_pos i hn
  have l2 : -n < Int.tmod i n := Int.lt_tmod_of_pos i hn
  have e2 : i % n = Int.tmod i n % n := by
    conv => lhs; rw [← e]
    rw [Int.add_comm, Int.add_mul_emod_self_left]
  refine ⟨fun h => ?_, fun h => ?_, l2, l1⟩
  · rw [e2, Int.emod_eq_of_lt h l1]
  · rw [e2, ← Int.add_emod_right, Int.emod_eq_of_lt (by omega) (by omega)]
end Go.Proofs.Ytcolhgngiflkhaa
/- What Plane refuses; Plane. -/
namespace Go.Proofs.Ytcolhgngiflkhaa
open Go.RowKit
set_option linter.unusedVariables false
set_option linter.unusedSimpArgs false

theorem chk_is50 (W H : Int) : (chk W H 0 != 50) = sizeB W H := by
  unfold chk
  cases sizeB W H
  · rfl
  · rw [if_pos rfl]; split <;> rfl
set_option maxHeartbeats 1000000 in
set_option maxRecDepth 100000 in
theorem issize_any (W H : Int) (w : World) : Calls Try.prog 26 #[.int .i64 W, .int .i64 H] w fun e w' => e = .returned (.bool (sizeB W H)) ∧ Q w w' := by
  have C := check_any W H none 0 0 (by decide) w
  have HS : Hid ((chk W H 0 != 50) = sizeB W H) := chk_is50 W H
  generalize chk W H 0 = E at *
  go_enter Try.func26, Try.ntmps26
  go_wp2_with fail
  refine C.mono ?_
  rintro e w1 ⟨rfl, q1⟩
  have HQ : Hid (Q w w1) := q1
  clear C q1
  go_wp2_with fail
  go_ret
  exact ⟨by rw [← HS.out]; rfl, HQ.out⟩
/-- Plane's errors. -/
def plnE (pw ph : Int) (n : Nat) (kind W H : Int) : Int := if chk pw ph n = 0 then (if sizeB W H = true then (if tapE kind pw W 0 = 0 then tapE kind ph H 0 else tapE kind pw W 0) else 100) else chk pw ph n
set_option maxHeartbeats 2000000 in
set_option maxRecDepth 100000 in
theorem refplane_any (pw ph : Int) (ad : Option Addr) (n c : Nat) (kind W H : Int) (hn : n ≤ 9223372036854775807) (w : World) :
    Calls Try.prog 16 #[.agg #[.int .i64 pw, .int .i64 ph, .slice ad n c], .int .i64 kind, .int .i64 W, .int .i64 H] w fun e w' => e = .returned (.int .i64 (plnE pw ph n kind W H)) ∧ Q w w' := by
  obtain ⟨w1, hw1⟩ : ∃ w1, w.alloc (.cells #[.int .i64 pw, .int .i64 ph, .slice ad n c] 24) = w1 := ⟨_, rfl⟩
  have q1 : Q w w1 := by rw [← hw1]; exact (Q.refl w).cells _ _
  have k0 : w1.cell? ⟨w.heap.size, 0, none⟩ = some (.int .i64 pw) := by rw [← hw1]; simp [go_sem]
  have k1 : w1.cell? ⟨w.heap.size, 1, none⟩ = some (.int .i64 ph) := by rw [← hw1]; simp [go_sem]
  have k2 : w1.cell? ⟨w.heap.size, 2, none⟩ = some (.slice ad n c) := by rw [← hw1]; simp [go_sem]
  have C1 := check_any pw ph ad n c hn w1
  have HC2 : Hid (∀ x : World, Calls Try.prog 26 #[.int .i64 W, .int .i64 H] x fun e w' => e = .returned (.bool (sizeB W H)) ∧ Q x w') := fun x => issize_any W H x
  have HC3 : Hid (∀ (F T : Int) (x : World), Calls Try.prog 20 #[.int .i64 kind, .int .i64 F, .int .i64 T] x fun e w' => e = .returned (.int .i64 (tapE kind F T 0)) ∧ Q x w') := fun F T x => refusal_any kind F T x
  have HP : Hid (plnE pw ph n kind W H = if chk pw ph n = 0 then (if sizeB W H = true then (if tapE kind pw W 0 = 0 then tapE kind ph H 0 else tapE kind pw W 0) else 100) else chk pw ph n) := rfl
  have HQ1 : Hid (Q w w1) := q1
  have HK : Hid (w1.cell? ⟨w.heap.size, 0, none⟩ = some (.int .i64 pw) ∧ w1.cell? ⟨w.heap.size, 1, none⟩ = some (.int .i64 ph)) := ⟨k0, k1⟩
  rw [HP.out]
  clear HP q1
  by_cases hc : chk pw ph n = 0
  · rw [if_pos hc]
    rw [hc] at C1
    cases hs : sizeB W H
    · rw [if_neg (by simp)]
      rw [hs] at HC2
      go_enter Try.func16, Try.ntmps16
      go_wp2_with fail
      refine C1.mono ?_
      rintro e w2 ⟨rfl, q2⟩
      clear C1
      have HQ2 : Hid (Q w w2) := HQ1.out.trans q2
      go_wp2_with fail
      refine (HC2.out w2).mono ?_
      rintro e w3 ⟨rfl, q3⟩
      have HQ3 : Hid (Q w w3) := HQ2.out.trans q3
      clear q2 q3
      go_wp2_with fail
      go_ret
      exact ⟨rfl, HQ3.out⟩
    · rw [if_pos rfl]
      rw [hs] at HC2
      have C3 := HC3.out pw W
      by_cases ht : tapE kind pw W 0 = 0
      · rw [if_pos ht]
        have HT : Hid (∀ x : World, Calls Try.prog 20 #[.int .i64 kind, .int .i64 pw, .int .i64 W] x fun e w' => e = .returned (.int .i64 0) ∧ Q x w') := by rw [ht] at C3; exact C3
        have HT2 : Hid (∀ x : World, Calls Try.prog 20 #[.int .i64 kind, .int .i64 ph, .int .i64 H] x fun e w' => e = .returned (.int .i64 (tapE kind ph H 0)) ∧ Q x w') := HC3.out ph H
        generalize tapE kind ph H 0 = E at *
        clear C3 HC3 ht hc hs
        go_enter Try.func16, Try.ntmps16
        go_wp2_with fail
        refine C1.mono ?_
        rintro e w2 ⟨rfl, q2⟩
        clear C1
        have HQ2 : Hid (Q w w2) := HQ1.out.trans q2
        have HQ2' : Hid (Q w1 w2) := q2
        go_wp2_with fail
        refine (HC2.out w2).mono ?_
        rintro e w3 ⟨rfl, q3⟩
        have HQ3 : Hid (Q w1 w3) := HQ2'.out.trans q3
        have m0 := HQ3.out.cell HK.out.1
        clear q2 q3
        go_wp2_with fail
        refine (HT.out w3).mono ?_
        rintro e w4 ⟨rfl, q4⟩
        have HQ4 : Hid (Q w1 w4) := HQ3.out.trans q4
        have m1 := HQ4.out.cell HK.out.2
        clear q4 m0
        go_wp2_with fail
        refine (HT2.out w4).mono ?_
        rintro e w5 ⟨rfl, q5⟩
        have HQ5 : Hid (Q w w5) := HQ1.out.trans (HQ4.out.trans q5)
        clear q5 m1
        go_wp2_with fail
        go_ret
        exact ⟨rfl, HQ5.out⟩
      · rw [if_neg ht]
        have HT : Hid (∀ x : World, Calls Try.prog 20 #[.int .i64 kind, .int .i64 pw, .int .i64 W] x fun e w' => e = .returned (.int .i64 (tapE kind pw W 0)) ∧ Q x w') := C3
        generalize tapE kind pw W 0 = E at *
        have hEb : (E != 0) = true := by simpa using ht
        clear C3 HC3 hc hs
        go_enter Try.func16, Try.ntmps16
        go_wp2_with fail
        refine C1.mono ?_
        rintro e w2 ⟨rfl, q2⟩
        clear C1
        have HQ2' : Hid (Q w1 w2) := q2
        go_wp2_with fail
        refine (HC2.out w2).mono ?_
        rintro e w3 ⟨rfl, q3⟩
        have HQ3 : Hid (Q w1 w3) := HQ2'.out.trans q3
        have m0 := HQ3.out.cell HK.out.1
        clear q2 q3
        go_wp2_with fail
        refine (HT.out w3).mono ?_
        rintro e w4 ⟨rfl, q4⟩
        have HQ4 : Hid (Q w w4) := HQ1.out.trans (HQ3.out.trans q4)
        clear q4 m0
        go_wp2_with fail
        go_ret
        exact ⟨rfl, HQ4.out⟩
  · rw [if_neg hc]
    generalize chk pw ph n = E at *
    have hEb : (E != 0) = true := by simpa using hc
    go_enter Try.func16, Try.ntmps16
    go_wp2_with fail
    refine C1.mono ?_
    rintro e w2 ⟨rfl, q2⟩
    clear C1
    have HQ2 : Hid (Q w w2) := HQ1.out.trans q2
    clear q2
    go_wp2_with fail
    go_ret
    exact ⟨rfl, HQ2.out⟩
end Go.Proofs.Ytcolhgngiflkhaa
/- Pieces of planes of other sizes: Plane, Part. -/
namespace Go.Proofs.Ytcolhgngiflkhaa
open Go.RowKit
set_option linter.unusedVariables false
set_option linter.unusedSimpArgs false

/-- The sample at a place of the plane of another size. -/
def whlV (kind : Int) (pa pb W H : Nat) (S : List Nat) (X Y : Nat) : Nat := smpV (tpA kind pb H Y) (tabN pb (colV (tpA kind pa W X) S pa))
theorem tpA_rise {kind F T i : Int} (h : tapE kind F T i = 0) : (tpA kind F T i).Pairwise (fun x y => x.1 < y.1) := by
  obtain ⟨hk, hz, e1, e2, e3⟩ := tapE_ok h
  have ok := taps_ok hk hz
  unfold tpA
  rw [if_pos h]
  exact ok.rise
theorem line_j (kind : Int) (F T lo n : Nat) (x1 : Int) (hx1 : x1 = ((lo + n : Nat) : Int)) (hE : tapE kind F T 0 = 0) (hn : 1 ≤ n) (hT : lo + n ≤ T) (hT2 : T ≤ 1024) (x : World) :
    Calls Try.prog 21 #[.int .i64 kind, .int .i64 (F : Int), .int .i64 (T : Int), .int .i64 (lo : Int), .int .i64 x1] x fun e x' => ∃ v, e = .returned v ∧ LnJ x.heap.size x'.heap.size x' v ((List.range n).map fun (k : Nat) => tpA kind F T ((lo + k : Nat) : Int)) ∧ Q x x' := by
  subst hx1
  refine (lineOf_any kind F T lo n x (by omega) (by omega)).mono ?_
  rintro e x' ⟨v, h1, h2, h3⟩
  refine ⟨v, h1, h2.j (by rw [List.length_map, List.length_range]; exact hn) (fun L hL => ?_), h3⟩
  obtain ⟨k, hk, rfl⟩ := List.mem_map.1 hL
  have := List.mem_range.1 hk
  exact (tpA_tok (tapE_at hE (k := lo + k) (by omega))).one
theorem range_getD {n : Nat} {f : Nat → List (Int × Int)} {k : Nat} (h : k < n) : ((List.range n).map f).getD k [] = f k := by
  rw [List.getD_eq_getElem?_getD, List.getElem?_map, List.getElem?_range h]; rfl
theorem piece_rect (kind : Int) (pa pb W H x0 y0 nx ny : Nat) (x1 y1 : Int) (sv : Value) (S : List Nat) (w : World) (hsv : USl w sv S) (hsz : Size pa pb) (hS : S.length = pa * pb) (hb : ∀ i, S.getD i 0 < 4294967296)
    (hE1 : tapE kind pa W 0 = 0) (hE2 : tapE kind pb H 0 = 0) (hx : x1 = ((x0 + nx : Nat) : Int)) (hy : y1 = ((y0 + ny : Nat) : Int)) (hx1 : 1 ≤ nx) (hy1 : 1 ≤ ny) (hxW : x0 + nx ≤ W) (hyH : y0 + ny ≤ H) (hW : W ≤ 1024) (hH : H ≤ 1024) :
    Calls Try.prog 17 #[.agg #[.int .i64 (pa : Int), .int .i64 (pb : Int), sv], .int .i64 kind, .int .i64 (W : Int), .int .i64 (H : Int), .agg #[.int .i64 (x0 : Int), .int .i64 (y0 : Int), .int .i64 x1, .int .i64 y1]] w fun e w' => ∃ g, e = .returned (.agg #[.int .i64 (nx : Int), .int .i64 (ny : Int), .slice (some ⟨g, 0, none⟩) (nx * ny) (nx * ny)]) ∧ URow w' g (tabN (nx * ny) fun i => whlV kind pa pb W H S (x0 + i % nx) (y0 + i / nx)) ∧ w.heap.size ≤ g ∧ Q w w' := by
  have C := piece_any kind W H x0 x1 y0 y1 pa pb nx ny _ _ sv S w (line_j kind pa W x0 nx x1 hx hE1 hx1 hxW hW) (line_j kind pb H y0 ny y1 hy hE2 hy1 hyH hH) hsv hsz hS hb (fun L hL => by
    obtain ⟨k, hk, rfl⟩ := List.mem_map.1 hL
    have := List.mem_range.1 hk
    have := tpA_tok (tapE_at hE1 (k := x0 + k) (by omega))
    rw [Int.toNat_natCast] at this
    exact this) (fun L hL => by
    obtain ⟨k, hk, rfl⟩ := List.mem_map.1 hL
    have := List.mem_range.1 hk
    have h1 := tpA_tok (tapE_at hE2 (k := y0 + k) (by omega))
    rw [Int.toNat_natCast] at h1
    exact ⟨h1, tpA_rise (tapE_at hE2 (k := y0 + k) (by omega))⟩) (by rw [List.length_map, List.length_range]) (by rw [List.length_map, List.length_range]) hx1 hy1 (by omega) (by omega)
  refine C.mono ?_
  rintro e w' ⟨g, h1, h2, h3, h4⟩
  refine ⟨g, h1, ?_, h3, h4⟩
  rw [tabN_congr (g := fun i => whlV kind pa pb W H S (x0 + i % nx) (y0 + i / nx)) (fun i hi => ?_)] at h2
  · exact h2
  · obtain ⟨_, a1, a2⟩ := row_lt hi
    unfold pieceV whlV
    rw [range_getD a1, range_getD a2]
set_option maxHeartbeats 2000000 in
set_option maxRecDepth 100000 in
theorem plane_good (kind : Int) (pa pb W H : Nat) (sv : Value) (S : List Nat) (w : World) (hsv : USl w sv S) (hS : S.length = pa * pb) (hb : ∀ i, S.getD i 0 < 4294967296) (hE : plnE pa pb S.length kind W H = 0) (hsz : Size pa pb) (hWH : Size W H) :
    Calls Try.prog 8 #[.agg #[.int .i64 (pa : Int), .int .i64 (pb : Int), sv], .int .i64 kind, .int .i64 (W : Int), .int .i64 (H : Int)] w fun e w' => ∃ g, e = .returned (.tuple #[.agg #[.int .i64 (W : Int), .int .i64 (H : Int), .slice (some ⟨g, 0, none⟩) (W * H) (W * H)], .int .i64 0]) ∧ URow w' g (tabN (W * H) fun i => whlV kind pa pb W H S (i % W) (i / W)) ∧ w.heap.size ≤ g ∧ Q w w' := by
  obtain ⟨ad, c, rfl⟩ := hsv.form
  have hE1 : tapE kind pa W 0 = 0 ∧ tapE kind pb H 0 = 0 := by
    unfold plnE at hE
    split at hE
    · split at hE
      · split at hE
        · rename_i h; exact ⟨h, hE⟩
        · rename_i h; exact absurd hE h
      · cases hE
    · rename_i h; exact absurd hE h
  have hSl : S.length ≤ 65536 := by rw [hS]; exact hsz.ab
  obtain ⟨w1, hw1⟩ : ∃ w1, (w.alloc (.cells #[.int .i64 (pa : Int), .int .i64 (pb : Int), .slice ad S.length c] 24)).alloc (.cells #[.int .i64 0, .int .i64 0, .slice none 0 0] 24) = w1 := ⟨_, rfl⟩
  have q1 : Q w w1 := by rw [← hw1]; exact ((Q.refl w).cells _ _).cells _ _
  have k0 : w1.cell? ⟨w.heap.size, 0, none⟩ = some (.int .i64 (pa : Int)) := by rw [← hw1]; simp [go_sem]
  have k1 : w1.cell? ⟨w.heap.size, 1, none⟩ = some (.int .i64 (pb : Int)) := by rw [← hw1]; simp [go_sem]
  have k2 : w1.cell? ⟨w.heap.size, 2, none⟩ = some (.slice ad S.length c) := by rw [← hw1]; simp [go_sem]
  have HR : Hid (w1.cell? ⟨w.heap.size + 1, 0, none⟩ = some (.int .i64 0) ∧ w1.cell? ⟨w.heap.size + 1, 1, none⟩ = some (.int .i64 0) ∧ w1.cell? ⟨w.heap.size + 1, 2, none⟩ = some (.slice none 0 0) ∧ (∀ j, w1.frozen? ⟨w.heap.size + 1, j, none⟩ = false) ∧ w1.heap.size = w.heap.size + 2) := by
    rw [← hw1]
    exact ⟨by simp [go_sem], by simp [go_sem], by simp [go_sem], fun j => by simp [go_sem], by simp⟩
  have C1 := refplane_any pa pb ad S.length c kind W H (by omega) w1
  rw [hE] at C1
  have HC2 : Hid (∀ x : World, Q w x → Calls Try.prog 17 #[.agg #[.int .i64 (pa : Int), .int .i64 (pb : Int), .slice ad S.length c], .int .i64 kind, .int .i64 (W : Int), .int .i64 (H : Int), .agg #[.int .i64 0, .int .i64 0, .int .i64 (W : Int), .int .i64 (H : Int)]] x fun e w' => ∃ g, e = .returned (.agg #[.int .i64 (W : Int), .int .i64 (H : Int), .slice (some ⟨g, 0, none⟩) (W * H) (W * H)]) ∧ URow w' g (tabN (W * H) fun i => whlV kind pa pb W H S (i % W) (i / W)) ∧ x.heap.size ≤ g ∧ Q x w') := fun x q => by
    have := piece_rect kind pa pb W H 0 0 W H W H (.slice ad S.length c) S x (hsv.next q) hsz hS hb hE1.1 hE1.2 (by omega) (by omega) hWH.a1 hWH.b1 (by omega) (by omega) hWH.a2 hWH.b2
    simp only [Nat.zero_add] at this
    exact this
  have HQ1 : Hid (Q w w1) := q1
  have HK : Hid (w1.cell? ⟨w.heap.size, 0, none⟩ = some (.int .i64 (pa : Int)) ∧ w1.cell? ⟨w.heap.size, 1, none⟩ = some (.int .i64 (pb : Int)) ∧ w1.cell? ⟨w.heap.size, 2, none⟩ = some (.slice ad S.length c)) := ⟨k0, k1, k2⟩
  obtain ⟨FL, hFL⟩ : ∃ FL, (tabN (W * H) fun i => whlV kind pa pb W H S (i % W) (i / W)) = FL := ⟨_, rfl⟩
  rw [hFL] at HC2 ⊢
  obtain ⟨n, hn⟩ : ∃ n, W * H = n := ⟨_, rfl⟩
  rw [hn] at HC2 ⊢
  generalize S.length = sl at *
  clear q1 hsv hS hb hE hE1 hsz hWH hFL hn hSl
  go_enter Try.func8, Try.ntmps8
  go_wp2_with fail
  refine C1.mono ?_
  rintro e w2 ⟨rfl, q2⟩
  clear C1 k0 k1 k2
  have k0 := q2.cell HK.out.1
  have k1 := q2.cell HK.out.2.1
  have k2 := q2.cell HK.out.2.2
  have HQ2 : Hid (Q w1 w2) := q2
  clear q2 hw1
  go_wp2_with fail
  refine (HC2.out w2 (HQ1.out.trans HQ2.out)).mono ?_
  rintro e w3 ⟨g, rfl, hu, hl, q3⟩
  have o0 := (HQ2.out.trans q3).cell HR.out.1
  have o1 := (HQ2.out.trans q3).cell HR.out.2.1
  have o2 := (HQ2.out.trans q3).cell HR.out.2.2.1
  have fo : ∀ j, w3.frozen? ⟨w.heap.size + 1, j, none⟩ = false := fun j => by rw [(HQ2.out.trans q3).2]; exact HR.out.2.2.2.1 j
  have fo0 := fo 0
  have fo1 := fo 1
  have fo2 := fo 2
  obtain ⟨w9, hw9⟩ : ∃ w9, ((w3.setCell ⟨w.heap.size + 1, 0, none⟩ (.int .i64 (W : Int))).setCell ⟨w.heap.size + 1, 1, none⟩ (.int .i64 (H : Int))).setCell ⟨w.heap.size + 1, 2, none⟩ (.slice (some ⟨g, 0, none⟩) n n) = w9 := ⟨_, rfl⟩
  have hgg : w.heap.size + 1 ≠ g := by
    have := HQ2.out.1.size
    have := HR.out.2.2.2.2
    omega
  have HW : Hid (URow w9 g FL ∧ w.heap.size ≤ g ∧ Q w w9) := by
    refine ⟨?_, ?_, ?_⟩
    · rw [← hw9]
      exact ((hu.other (p := ⟨w.heap.size + 1, 0, none⟩) hgg _).other (p := ⟨w.heap.size + 1, 1, none⟩) hgg _).other (p := ⟨w.heap.size + 1, 2, none⟩) hgg _
    · have := (HQ1.out.trans HQ2.out).1.size
      omega
    · rw [← hw9]
      have hl' : w.heap.size ≤ w.heap.size + 1 := by omega
      exact (((HQ1.out.trans (HQ2.out.trans q3)).set hl' _).set hl' _).set hl' _
  have v0 : w9.cell? ⟨w.heap.size + 1, 0, none⟩ = some (.int .i64 (W : Int)) := by
    rw [← hw9, World.cell?_setCell_other _ _ _ _ (fun e => by injection e with _ e; cases e), World.cell?_setCell_other _ _ _ _ (fun e => by injection e with _ e; cases e)]; exact World.cell?_setCell_same _ _ _ o0
  have v1 : w9.cell? ⟨w.heap.size + 1, 1, none⟩ = some (.int .i64 (H : Int)) := by
    rw [← hw9, World.cell?_setCell_other _ _ _ _ (fun e => by injection e with _ e; cases e)]; exact World.cell?_setCell_same _ _ _ ((World.cell?_setCell_other _ _ _ _ (fun e => by injection e with _ e; cases e)).trans o1)
  have v2 : w9.cell? ⟨w.heap.size + 1, 2, none⟩ = some (.slice (some ⟨g, 0, none⟩) n n) := by
    rw [← hw9]; exact World.cell?_setCell_same _ _ _ ((World.cell?_setCell_other _ _ _ _ (fun e => by injection e with _ e; cases e)).trans ((World.cell?_setCell_other _ _ _ _ (fun e => by injection e with _ e; cases e)).trans o2))
  have HW9 : Hid _ := hw9
  clear fo hu hl q3 hw9 k0 k1 k2
  go_wp2_with fail
  rw [HW9.out]
  exact bodyPost_ret (v := .tuple #[.agg #[.int .i64 (W : Int), .int .i64 (H : Int), .slice (some ⟨g, 0, none⟩) n n], .int .i64 0]) (by simp [results, Try.results8, go_sem, v0, v1, v2]) rfl ⟨g, rfl, HW.out.1, HW.out.2.1, HW.out.2.2⟩
end Go.Proofs.Ytcolhgngiflkhaa
/- Plane refused; a plane of one sample. -/
namespace Go.Proofs.Ytcolhgngiflkhaa
open Go.RowKit
set_option linter.unusedVariables false
set_option linter.unusedSimpArgs false

set_option maxHeartbeats 2000000 in
set_option maxRecDepth 100000 in
theorem plane_bad (pw ph : Int) (ad : Option Addr) (n c : Nat) (kind W H : Int) (hn : n ≤ 9223372036854775807) (hE : plnE pw ph n kind W H ≠ 0) (w : World) :
    Calls Try.prog 8 #[.agg #[.int .i64 pw, .int .i64 ph, .slice ad n c], .int .i64 kind, .int .i64 W, .int .i64 H] w fun e w' => e = .returned (.tuple #[.agg #[.int .i64 0, .int .i64 0, .slice none 0 0], .int .i64 (plnE pw ph n kind W H)]) ∧ Q w w' := by
  obtain ⟨w1, hw1⟩ : ∃ w1, (w.alloc (.cells #[.int .i64 pw, .int .i64 ph, .slice ad n c] 24)).alloc (.cells #[.int .i64 0, .int .i64 0, .slice none 0 0] 24) = w1 := ⟨_, rfl⟩
  have q1 : Q w w1 := by rw [← hw1]; exact ((Q.refl w).cells _ _).cells _ _
  have k0 : w1.cell? ⟨w.heap.size, 0, none⟩ = some (.int .i64 pw) := by rw [← hw1]; simp [go_sem]
  have k1 : w1.cell? ⟨w.heap.size, 1, none⟩ = some (.int .i64 ph) := by rw [← hw1]; simp [go_sem]
  have k2 : w1.cell? ⟨w.heap.size, 2, none⟩ = some (.slice ad n c) := by rw [← hw1]; simp [go_sem]
  have HR : Hid (w1.cell? ⟨w.heap.size + 1, 0, none⟩ = some (.int .i64 0) ∧ w1.cell? ⟨w.heap.size + 1, 1, none⟩ = some (.int .i64 0) ∧ w1.cell? ⟨w.heap.size + 1, 2, none⟩ = some (.slice none 0 0) ∧ (∀ j, w1.frozen? ⟨w.heap.size + 1, j, none⟩ = false)) := by
    rw [← hw1]
    exact ⟨by simp [go_sem], by simp [go_sem], by simp [go_sem], fun j => by simp [go_sem]⟩
  have C1 := refplane_any pw ph ad n c kind W H hn w1
  have HQ1 : Hid (Q w w1) := q1
  generalize plnE pw ph n kind W H = E at *
  have hE0 : (E == 0) = false := by simpa using hE
  clear q1 hE
  go_enter Try.func8, Try.ntmps8
  go_wp2_with fail
  refine C1.mono ?_
  rintro e w2 ⟨rfl, q2⟩
  clear C1 k0 k1 k2
  have o0 := q2.cell HR.out.1
  have o1 := q2.cell HR.out.2.1
  have o2 := q2.cell HR.out.2.2.1
  have fo : ∀ j, w2.frozen? ⟨w.heap.size + 1, j, none⟩ = false := fun j => by rw [q2.2]; exact HR.out.2.2.2 j
  have fo0 := fo 0
  have fo1 := fo 1
  have fo2 := fo 2
  have HQ2 : Hid (Q w1 w2) := q2
  clear q2 hw1 fo
  go_wp2_with fail
  have hl' : w.heap.size ≤ w.heap.size + 1 := by omega
  exact bodyPost_ret (v := .tuple #[.agg #[.int .i64 0, .int .i64 0, .slice none 0 0], .int .i64 E]) (by simp [results, Try.results8, go_sem, o0, o1, o2]) rfl ⟨rfl, (((HQ1.out.trans HQ2.out).set hl' _).set hl' _).set hl' _⟩
/-- A plane of one sample. -/
theorem whl_const {kind : Int} {pa pb W H X Y : Nat} {S : List Nat} {x : Nat} (hX : tapE kind pa W X = 0) (hY : tapE kind pb H Y = 0) (hS : ∀ i, i < pa * pb → S.getD i 0 = x) (hx : rung32 x < 2139095040) (hx4 : x < 4294967296) :
    (whlV kind pa pb W H S X Y = x ∨ (x = 2147483648 ∧ whlV kind pa pb W H S X Y = 0)) ∧ (kind ≠ 3 → whlV kind pa pb W H S X Y = x) := by
  obtain ⟨hk1, hz1, -, -, -⟩ := tapE_ok hX
  obtain ⟨hk2, hz2, -, -, -⟩ := tapE_ok hY
  have ok1 := taps_ok hk1 hz1
  have ok2 := taps_ok hk2 hz2
  have e1 : tpA kind pa W X = tapsL (wlsV kind pa W X) := by unfold tpA; rw [if_pos hX]; rfl
  have e2 : tpA kind pb H Y = tapsL (wlsV kind pb H Y) := by unfold tpA; rw [if_pos hY]; rfl
  have t1 : TOk pa (tpA kind pa W X) := tpA_tok hX
  have t2 : TOk pb (tpA kind pb H Y) := tpA_tok hY
  have s1 : sndSum (tpA kind pa W X) = 65536 := by rw [e1]; exact ok1.sum
  have s2 : sndSum (tpA kind pb H Y) = 65536 := by rw [e2]; exact ok2.sum
  have p1 : kind ≠ 3 → ∀ e ∈ tpA kind pa W X, 0 < e.2 := fun hk e he => by
    rw [e1] at he
    have := ok1.at_ e he
    have h1 := this.2.2.1
    have h2 := this.2.2.2.1 hk
    omega
  have p2 : kind ≠ 3 → ∀ e ∈ tpA kind pb H Y, 0 < e.2 := fun hk e he => by
    rw [e2] at he
    have := ok2.at_ e he
    have h1 := this.2.2.1
    have h2 := this.2.2.2.1 hk
    omega
  obtain ⟨c, hc⟩ : ∃ c, smpV (tpA kind pa W X) (List.replicate pa x) = c := ⟨_, rfl⟩
  have hcc := smp_const (S := List.replicate pa x) t1 s1 (tpA_abs hX) hx hx4 (fun e he => by
    have := t1.pl e he
    rw [List.getD_eq_getElem?_getD, List.getElem?_replicate, if_pos (by omega)]
    rfl)
  rw [hc] at hcc
  have hcol : ∀ y, y < pb → colV (tpA kind pa W X) S pa y = c := fun y hy => by
    rw [← hc]
    unfold colV
    refine smpV_congr fun e he => ?_
    have h := t1.pl e he
    have hi : e.1.toNat < pa := by omega
    have hin : y * pa + e.1.toNat < pa * pb := by
      have : (y + 1) * pa ≤ pb * pa := Nat.mul_le_mul_right _ hy
      rw [Nat.mul_comm pa pb]
      rw [Nat.add_mul, Nat.one_mul] at this
      omega
    rw [List.getD_eq_getElem?_getD, List.getElem?_drop, ← List.getD_eq_getElem?_getD, hS _ hin, List.getD_eq_getElem?_getD, List.getElem?_replicate, if_pos hi]
    rfl
  have hfin : rung32 c < 2139095040 ∧ c < 4294967296 := by
    rcases hcc.1 with h | ⟨-, h⟩
    · rw [h]; exact ⟨hx, hx4⟩
    · rw [h]; exact ⟨by decide, by decide⟩
  have hdd := smp_const (S := tabN pb (colV (tpA kind pa W X) S pa)) (x := c) t2 s2 (tpA_abs hY) hfin.1 hfin.2 (fun e he => by
    have h := t2.pl e he
    have hi : e.1.toNat < pb := by omega
    rw [tabN_getD hi, hcol _ hi])
  have ew : whlV kind pa pb W H S X Y = smpV (tpA kind pb H Y) (tabN pb (colV (tpA kind pa W X) S pa)) := rfl
  rw [ew]
  refine ⟨?_, fun hk => ?_⟩
  · rcases hcc.1 with h | ⟨h1, h⟩
    · rw [h] at hdd
      exact hdd.1
    · rw [h] at hdd
      rcases hdd.1 with g | ⟨g1, g⟩
      · exact Or.inr ⟨h1, g⟩
      · cases g1
  · rw [hdd.2 (p2 hk), hcc.2 (p1 hk)]
end Go.Proofs.Ytcolhgngiflkhaa
/- Cubic: sizes of weights together are at most four times their sum; what it makes of samples that are not great is finite. Plain. -/
namespace Go.Proofs.Ytcolhgngiflkhaa
open Go.RowKit
set_option linter.unusedVariables false
set_option linter.unusedSimpArgs false

/-- Four times a number, less its size. -/
def hgh (z : Int) : Int := 4 * z - (z.natAbs : Int)
theorem hgh_pos {z : Int} (h : 0 ≤ z) : hgh z = 3 * z := by unfold hgh; omega
theorem hgh_low (z : Int) : 5 * z ≤ hgh z ∨ 0 ≤ z ∧ hgh z = 3 * z := by unfold hgh; omega
theorem high_cubic {F T i : Nat} (h : Sz F T i) : 0 ≤ sumF (fun j => hgh (wfV 3 F T i (fstV 3 F T i + j))) (winV 3 F T i) := by
  obtain ⟨w1, w2, w3, w4⟩ := win_eq (kind := 3) h
  have hm0 : 0 < ((max F T : Nat) : Int) := by have := h.f1; omega
  have hmT : (T : Int) ≤ ((max F T : Nat) : Int) := by omega
  have hst : 0 < 2 * (T : Int) := by have := h.t1; omega
  obtain ⟨st, hs⟩ : ∃ st, 2 * (T : Int) = st := ⟨_, rfl⟩
  have hww : winV 3 F T i = (lstV 3 F T i - fstV 3 F T i + 1).toNat := rfl
  have hre : rea 3 ((max F T : Nat) : Int) = 4 * ((max F T : Nat) : Int) := rfl
  have hwf : ∀ k, wfV 3 F T i k = cubV (absI (st * k - midV F T i)) (2 * ((max F T : Nat) : Int)) := fun k => by rw [← hs]; rfl
  rw [hre] at w1 w2 w3 w4
  rw [hs] at w1 w2 w3 w4 hst
  generalize ((max F T : Nat) : Int) = m at *
  generalize midV F T i = mid at *
  generalize fstV 3 F T i = fs at *
  generalize lstV 3 F T i = ls at *
  generalize winV 3 F T i = N at *
  have hst2 : st ≤ 2 * m := by omega
  -- how many steps fit into 2 m
  obtain ⟨q, hq1, hq2, hq0⟩ : ∃ q, st * q ≤ 2 * m ∧ 2 * m < st * (q + 1) ∧ 1 ≤ q := by
    have a1 := Int.mul_ediv_add_emod (2 * m) st
    have a2 := Int.emod_nonneg (2 * m) (by omega : st ≠ 0)
    have a3 := Int.emod_lt_of_pos (2 * m) hst
    refine ⟨2 * m / st, by omega, by rw [Int.mul_add]; omega, ?_⟩
    exact (Int.le_ediv_iff_mul_le hst).2 (by omega)
  have le_of : ∀ a b : Int, st * a < st * b + st → a ≤ b := fun a b hh => by
    rcases Int.lt_or_le b a with c | c
    · have h2 : st * (b + 1) ≤ st * a := Int.mul_le_mul_of_nonneg_left (by omega) (by omega)
      rw [Int.mul_add] at h2
      omega
    · exact c
  have pa := kx_prop (st := st) (mid := mid) (x := -(2 * m) + 1) hst
  have pc := kx_prop (st := st) (mid := mid) (x := -m) hst
  have pd := kx_prop (st := st) (mid := mid) (x := m) hst
  have pb := kx_prop (st := st) (mid := mid) (x := 2 * m) hst
  have ga : ∀ k, kx st mid (-(2 * m) + 1) ≤ k → mid + (-(2 * m) + 1) ≤ st * k := fun k hk => kx_ge hst hk
  have gc : ∀ k, kx st mid (-m) ≤ k → mid + -m ≤ st * k := fun k hk => kx_ge hst hk
  have gd : ∀ k, k < kx st mid m → st * k < mid + m := fun k hk => kx_lt hst hk
  have gb : ∀ k, k < kx st mid (2 * m) → st * k < mid + 2 * m := fun k hk => kx_lt hst hk
  obtain ⟨a, ha⟩ : ∃ a, kx st mid (-(2 * m) + 1) = a := ⟨_, rfl⟩
  obtain ⟨c, hc⟩ : ∃ c, kx st mid (-m) = c := ⟨_, rfl⟩
  obtain ⟨e, he⟩ : ∃ e, kx st mid m = e := ⟨_, rfl⟩
  obtain ⟨b, hb⟩ : ∃ b, kx st mid (2 * m) = b := ⟨_, rfl⟩
  rw [ha] at pa ga
  rw [hc] at pc gc
  rw [he] at pd gd
  rw [hb] at pb gb
  have o1 : fs + 1 ≤ a := by
    have := le_of (fs + 1) a (by rw [Int.mul_add]; omega)
    exact this
  have o2 : a ≤ c := le_of a c (by omega)
  have o3 : c ≤ e := le_of c e (by omega)
  have o4 : e ≤ b := le_of e b (by omega)
  have o5 : b ≤ ls + 1 := le_of b (ls + 1) (by rw [Int.mul_add]; omega)
  -- how many there are
  have n1 : a - fs - 1 ≤ q + 1 := le_of _ _ (by rw [Int.mul_sub, Int.mul_sub]; simp only [Int.mul_add, Int.mul_one] at hq2 ⊢; omega)
  have n2 : q ≤ e - c := le_of _ _ (by rw [Int.mul_sub]; omega)
  have n3 : ls - b ≤ q := le_of _ _ (by rw [Int.mul_sub]; simp only [Int.mul_add, Int.mul_one] at hq2; omega)
  have hm3 : 0 < m * m * m := Int.mul_pos (Int.mul_pos hm0 hm0) hm0
  have abs0 : ∀ d, 0 ≤ absI d := fun d => by unfold absI; omega
  have key := six (f := fun j => 27 * hgh (wfV 3 F T i (fs + j))) (A := (a - fs).toNat) (C1 := (c - fs).toNat) (C2 := (e - fs).toNat) (B := (b - fs).toNat) (N := N) (L := -(160 * (m * m * m))) (H := 729 * (m * m * m)) (by omega) (by omega) (by omega) (by omega) (by omega)
    (by
      show 0 ≤ 27 * hgh (wfV 3 F T i (fs + 0))
      rw [hwf, Int.add_zero]
      have hout : 2 * (2 * m) ≤ absI (st * fs - mid) := by unfold absI; omega
      unfold cubV
      rw [if_neg (by omega), if_neg (by omega)]
      decide)
    (fun j _ _ => by rw [hwf]; have := cub_low (c := absI (st * (fs + j) - mid)) (abs0 _) hm0; have := hgh_low (cubV (absI (st * (fs + j) - mid)) (2 * m)); omega)
    (fun j j1 j2 => by
      rw [hwf]
      have g1 := ga (fs + j) (by omega)
      have g2 := gb (fs + j) (by omega)
      have := (cub_near (abs0 _) (show absI (st * (fs + j) - mid) < 2 * m by unfold absI; omega)).1
      have := hgh_pos this
      omega)
    (fun j j1 j2 => by
      rw [hwf]
      have g1 := gc (fs + j) (by omega)
      have g2 := gd (fs + j) (by omega)
      have := cub_mid (abs0 _) (show absI (st * (fs + j) - mid) ≤ m by unfold absI; omega) hm0
      have := hgh_pos (show 0 ≤ cubV (absI (st * (fs + j) - mid)) (2 * m) by omega)
      omega)
    (fun j j1 j2 => by
      rw [hwf]
      have g1 := ga (fs + j) (by omega)
      have g2 := gb (fs + j) (by omega)
      have := (cub_near (abs0 _) (show absI (st * (fs + j) - mid) < 2 * m by unfold absI; omega)).1
      have := hgh_pos this
      omega)
    (fun j _ _ => by rw [hwf]; have := cub_low (c := absI (st * (fs + j) - mid)) (abs0 _) hm0; have := hgh_low (cubV (absI (st * (fs + j) - mid)) (2 * m)); omega)
  rw [sumF_mul] at key
  generalize m * m * m = M at *
  have b1 : (((a - fs).toNat - 1 : Nat) : Int) * (160 * M) ≤ (q + 1) * (160 * M) := Int.mul_le_mul_of_nonneg_right (by omega) (by omega)
  have b2 : q * (729 * M) ≤ (((e - fs).toNat - (c - fs).toNat : Nat) : Int) * (729 * M) := Int.mul_le_mul_of_nonneg_right (by omega) (by omega)
  have b3 : ((N - (b - fs).toNat : Nat) : Int) * (160 * M) ≤ (q + 1) * (160 * M) := Int.mul_le_mul_of_nonneg_right (by omega) (by omega)
  have b4 : 1 * M ≤ q * M := Int.mul_le_mul_of_nonneg_right hq0 (by omega)
  simp only [Int.mul_neg] at key
  have e1 : q * (729 * M) = 729 * (q * M) := by grind
  have e2 : (q + 1) * (160 * M) = 160 * (q * M) + 160 * M := by grind
  rw [e1] at b2
  rw [e2] at b1 b3
  omega

theorem absL_runF {f pl : Int → Int} {a : Int} : ∀ n : Nat, absL (wrun f pl a n) ≤ absF (fun j => f (a + j)) n
  | 0 => by simp [wrun, absL]
  | n + 1 => by
    have := absL_runF (f := f) (pl := pl) (a := a) n
    have h2 := absL_put (wrun f pl a n) (pl (a + n)) (f (a + n))
    unfold absF
    show absL (wput _ _ _) ≤ _
    omega
theorem sumF_hgh (f : Nat → Int) : ∀ n, sumF (fun j => hgh (f j)) n = 4 * sumF f n - (absF f n : Int)
  | 0 => by simp [sumF, absF]
  | n + 1 => by
    unfold sumF absF
    rw [sumF_hgh f n]
    unfold hgh
    omega
theorem wls_abs3 {F T i : Nat} (h : Sz F T i) : (absL (wlsV 3 F T i) : Int) ≤ 4 * sndSum (wlsV 3 F T i) := by
  have h1 := high_cubic h
  rw [sumF_hgh, ← wls_sum] at h1
  have h2 : absL (wlsV 3 F T i) ≤ absF (fun j => wfV 3 F T i (fstV 3 F T i + j)) (winV 3 F T i) := absL_runF _
  omega
theorem tpA_abs3 {F T i : Int} (h : tapE 3 F T i = 0) : absL (tpA 3 F T i) ≤ 524288 := by
  obtain ⟨hk, hz, e1, e2, e3⟩ := tapE_ok h
  have hS := wls_pos hk hz
  have ha := wls_abs3 hz
  have hl := (wls_bound (kind := 3) hz).1
  have etp : tpA 3 F T i = tapsL (wlsV 3 F.toNat T.toNat i.toNat) := by unfold tpA; rw [if_pos h]
  rw [etp]
  unfold tapsL
  generalize wlsV 3 F.toNat T.toNat i.toNat = L at *
  rw [tpK_abs]
  have hz1 : absF (zf (L.map Prod.snd)) L.length = absL L := by
    have := absF_zf (L.map Prod.snd) L.length (by rw [List.length_map]; exact Nat.le_refl _)
    rw [this, List.take_of_length_le (by rw [List.length_map]; exact Nat.le_refl _), List.map_map]
    rfl
  rw [sndSum_zf] at hS ha
  have hf := flo_abs (z := zf (L.map Prod.snd)) hS L.length
  have hs := absF_le (f := shrV (zf (L.map Prod.snd)) L.length) (g := flo (zf (L.map Prod.snd)) (sumF (zf (L.map Prod.snd)) L.length)) (fun i => by
    unfold shrV shrK
    split <;> omega) L.length
  rw [hz1] at hf
  generalize sumF (zf (L.map Prod.snd)) L.length = S at *
  have h3 : S * (absF (flo (zf (L.map Prod.snd)) S) L.length : Int) ≤ S * 262206 := by
    have : (L.length : Int) * S ≤ 62 * S := Int.mul_le_mul_of_nonneg_right (by omega) (by omega)
    omega
  have h4 : (absF (flo (zf (L.map Prod.snd)) S) L.length : Int) ≤ 262206 := Int.le_of_mul_le_mul_left h3 hS
  omega
theorem RN_times {x : Nat} (hx : rung32 x < 2139095040) {k : Int} (hk : k.natAbs ≤ 2 ^ 28) : RN (k * sampleZ x) = k * sampleZ x := by
  obtain ⟨m, g, a, b, c⟩ := X_formq hx
  have := (kX_valq a b c hk).1
  unfold RN
  split <;> omega
/-- Sums of numbers that are not great, each rounded. -/
theorem rsum_cap {x : Nat} (hx : rung32 x < 2139095040) (h0 : 0 ≤ sampleZ x) : ∀ (l : List (Nat × Int)) (z : Int) (k : Nat), -((k : Int) * sampleZ x) ≤ z ∧ z ≤ (k : Int) * sampleZ x → (∀ p ∈ l, -((p.1 : Int) * sampleZ x) ≤ p.2 ∧ p.2 ≤ (p.1 : Int) * sampleZ x) → k + (l.map Prod.fst).sum ≤ 2 ^ 28 → -(((k + (l.map Prod.fst).sum : Nat) : Int) * sampleZ x) ≤ rsum (l.map Prod.snd) z ∧ rsum (l.map Prod.snd) z ≤ ((k + (l.map Prod.fst).sum : Nat) : Int) * sampleZ x
  | [], z, k, hz, _, _ => by simpa [rsum] using hz
  | p :: t, z, k, hz, hl, hk => by
    have hp := hl p (List.mem_cons_self ..)
    rw [List.map_cons, List.sum_cons] at hk ⊢
    have e : ((k + p.1 : Nat) : Int) * sampleZ x = (k : Int) * sampleZ x + (p.1 : Int) * sampleZ x := by rw [Int.natCast_add, Int.add_mul]
    have u := RNq_mono (Y := z + p.2) (Z := ((k + p.1 : Nat) : Int) * sampleZ x) (by omega)
    have v := RNq_mono (Z := z + p.2) (Y := (-((k + p.1 : Nat) : Int)) * sampleZ x) (by rw [Int.neg_mul]; omega)
    rw [RN_times hx (by omega)] at u v
    rw [Int.neg_mul] at v
    have ih := rsum_cap hx h0 t (RN (z + p.2)) (k + p.1) ⟨v, u⟩ (fun q hq => hl q (List.mem_cons_of_mem _ hq)) (by omega)
    rw [Nat.add_assoc] at ih
    exact ih
theorem samp_cap {x y : Nat} (h : rung32 y ≤ rung32 x) (hs : sgn32 x = false) : -(sampleZ x) ≤ sampleZ y ∧ sampleZ y ≤ sampleZ x := by
  have hv := val_le32 h
  obtain ⟨c, hc⟩ : ∃ c : Nat, c = 925 := ⟨_, rfl⟩
  have e1 := samp_eq x hc
  have e2 := samp_eq y hc
  have p : (0 : Int) ≤ 2 ^ c := Int.le_of_lt (Int.pow_pos (by decide))
  have a1 : sval32 x = (val32 (rung32 x) : Int) := by unfold sval32; rw [hs]; rfl
  have a2 : -(val32 (rung32 x) : Int) ≤ sval32 y ∧ sval32 y ≤ (val32 (rung32 x) : Int) := by unfold sval32; split <;> omega
  have b1 := Int.mul_le_mul_of_nonneg_right a2.1 p
  have b2 := Int.mul_le_mul_of_nonneg_right a2.2 p
  rw [e1, e2, a1]
  rw [Int.neg_mul] at b1
  exact ⟨b1, b2⟩
/-- One pass of taps whose sizes are at most 8 together. -/
theorem cub_pass {m : Nat} {L : List (Int × Int)} {S : List Nat} {P R : Nat} (ok : TOk m L) (ha : absL L ≤ 524288) (hP : rung32 P < 2139095040) (hR : rung32 R < 2139095040) (sP : sgn32 P = false) (sR : sgn32 R = false) (hPR : sampleZ R = 8 * sampleZ P) (h0 : 0 ≤ sampleZ P) (hS : ∀ e ∈ L, rung32 (S.getD e.1.toNat 0) ≤ rung32 P) : rung32 (smpV L S) ≤ rung32 R := by
  obtain ⟨Y, y1, y2, -⟩ := smp_key ok (fun e he => Nat.lt_of_le_of_lt (hS e he) hP)
  have c := rsum_cap hP h0 (L.map fun e => (e.2.natAbs, e.2 * sampleZ (S.getD e.1.toNat 0))) 0 0 (by simp) (fun p hp => by
    obtain ⟨e, he, rfl⟩ := List.mem_map.1 hp
    obtain ⟨s1, s2⟩ := samp_cap (hS e he) sP
    show -(((e.2.natAbs : Nat) : Int) * sampleZ P) ≤ e.2 * sampleZ (S.getD e.1.toNat 0) ∧ e.2 * sampleZ (S.getD e.1.toNat 0) ≤ ((e.2.natAbs : Nat) : Int) * sampleZ P
    generalize sampleZ (S.getD e.1.toNat 0) = X at *
    generalize sampleZ P = Z at *
    rcases Int.le_total 0 e.2 with g | g
    · have t1 := Int.mul_le_mul_of_nonneg_left s1 g
      have t2 := Int.mul_le_mul_of_nonneg_left s2 g
      rw [show ((e.2.natAbs : Nat) : Int) = e.2 by omega]
      rw [Int.mul_neg] at t1
      exact ⟨t1, t2⟩
    · have t1 := Int.mul_le_mul_of_nonneg_left s1 (show 0 ≤ -e.2 by omega)
      have t2 := Int.mul_le_mul_of_nonneg_left s2 (show 0 ≤ -e.2 by omega)
      rw [show ((e.2.natAbs : Nat) : Int) = -e.2 by omega]
      simp only [Int.neg_mul, Int.mul_neg] at t1 t2 ⊢
      omega) (by
    rw [List.map_map, Nat.zero_add]
    have : (2 : Nat) ^ 28 = 268435456 := by decide
    have e : (L.map (Prod.fst ∘ fun e => (e.2.natAbs, e.2 * sampleZ (S.getD e.1.toNat 0)))).sum = absL L := rfl
    omega)
  rw [List.map_map, List.map_map, Nat.zero_add] at c
  have e : (L.map (Prod.fst ∘ fun e => (e.2.natAbs, e.2 * sampleZ (S.getD e.1.toNat 0)))).sum = absL L := rfl
  have e2 : rsum (L.map (Prod.snd ∘ fun e => (e.2.natAbs, e.2 * sampleZ (S.getD e.1.toNat 0)))) 0 = smZ L S := rfl
  rw [e, e2, y1] at c
  have t : (absL L : Int) * sampleZ P ≤ 524288 * sampleZ P := Int.mul_le_mul_of_nonneg_right (by omega) h0
  have m1 := RS_mono (Y := Y) (Z := sampleZ R) (by omega)
  have m2 := RS_mono (Y := -sampleZ R) (Z := Y) (by omega)
  have hneg : RS (-sampleZ R) = -(srung32 R) := by
    have hs := RS_self hR
    have h8 : 0 ≤ sampleZ R := by omega
    unfold RS at hs ⊢
    rw [Int.natAbs_neg]
    by_cases z : sampleZ R = 0
    · rw [z] at hs ⊢
      simp only [Int.natAbs_zero, rungOf_zero] at hs ⊢
      rw [← hs]; decide
    · rw [if_neg (by omega)] at hs
      rw [if_pos (by omega), hs]
  rw [RS_self hR, ← y2] at m1
  rw [hneg, ← y2] at m2
  have hr : srung32 R = (rung32 R : Int) := by unfold srung32; rw [sR]; rfl
  rw [hr] at m1 m2
  unfold srung32 at m1 m2
  split at m1 <;> split at m2 <;> omega
theorem pow_samp {k : Nat} (hk : 1 ≤ k) (hk2 : k < 255) {c : Nat} (hc : c = k + 947) : sampleZ (k * 8388608) = 2 ^ c ∧ rung32 (k * 8388608) = k * 8388608 ∧ sgn32 (k * 8388608) = false := by
  have hr : rung32 (k * 8388608) = k * 8388608 := by unfold rung32; omega
  have hs : sgn32 (k * 8388608) = false := by unfold sgn32; rw [beq_eq_false_iff_ne]; omega
  refine ⟨?_, hr, hs⟩
  unfold sampleZ
  rw [hr, hs]
  have hm : mag32 (k * 8388608) = 8388608 := by unfold mag32 plc32; omega
  have hp : plc32 (k * 8388608) = k - 1 := by unfold plc32; omega
  rw [hm, hp, signed_eqq, if_neg (by decide), show (8388608 : Nat) = 2 ^ 23 by decide, ← Nat.pow_add, show 23 + (k - 1 + 925) = c by omega, Int.natCast_pow]
  rfl
theorem cub_fin {pa pb W H X Y : Nat} {S : List Nat} (hX : tapE 3 pa W X = 0) (hY : tapE 3 pb H Y = 0) (hS : ∀ i, i < pa * pb → rung32 (S.getD i 0) ≤ 2071986176) : rung32 (whlV 3 pa pb W H S X Y) < 2139095040 := by
  have t1 : TOk pa (tpA 3 pa W X) := tpA_tok hX
  have t2 : TOk pb (tpA 3 pb H Y) := tpA_tok hY
  obtain ⟨c, hc⟩ : ∃ c : Nat, c = 1194 := ⟨_, rfl⟩
  obtain ⟨p1, p2, p3⟩ := pow_samp (k := 247) (by decide) (by decide) (c := c) (by omega)
  obtain ⟨q1, q2, q3⟩ := pow_samp (k := 250) (by decide) (by decide) (c := c + 3) (by omega)
  obtain ⟨r1, r2, r3⟩ := pow_samp (k := 253) (by decide) (by decide) (c := c + 6) (by omega)
  have hpos : (0 : Int) ≤ 2 ^ c := Int.le_of_lt (Int.pow_pos (by decide))
  have e3 : (2 : Int) ^ (c + 3) = 8 * 2 ^ c := by rw [Int.pow_add, Int.mul_comm]; rfl
  have e6 : (2 : Int) ^ (c + 6) = 8 * 2 ^ (c + 3) := by rw [show c + 6 = c + 3 + 3 by omega, Int.pow_add, Int.mul_comm]; rfl
  have hcol : ∀ y, y < pb → rung32 (colV (tpA 3 pa W X) S pa y) ≤ rung32 (250 * 8388608) := fun y hy => by
    unfold colV
    refine cub_pass t1 (tpA_abs3 hX) (by rw [p2]; decide) (by rw [q2]; decide) p3 q3 (by rw [p1, q1]; exact e3) (by rw [p1]; exact hpos) (fun e he => ?_)
    have h := t1.pl e he
    have hi : e.1.toNat < pa := by omega
    have hin : y * pa + e.1.toNat < pa * pb := by
      have : (y + 1) * pa ≤ pb * pa := Nat.mul_le_mul_right _ hy
      rw [Nat.mul_comm pa pb]
      rw [Nat.add_mul, Nat.one_mul] at this
      omega
    rw [List.getD_eq_getElem?_getD, List.getElem?_drop, ← List.getD_eq_getElem?_getD, p2]
    exact hS _ hin
  have ew : whlV 3 pa pb W H S X Y = smpV (tpA 3 pb H Y) (tabN pb (colV (tpA 3 pa W X) S pa)) := rfl
  rw [ew]
  have := cub_pass (S := tabN pb (colV (tpA 3 pa W X) S pa)) t2 (tpA_abs3 hY) (by rw [q2]; decide) (by rw [r2]; decide) q3 r3 (by rw [q1, r1]; exact e6) (by rw [q1, e3]; omega) (fun e he => by
    have h := t2.pl e he
    have hi : e.1.toNat < pb := by omega
    rw [tabN_getD hi]
    exact hcol _ hi)
  rw [r2] at this
  omega
/-- Box and Tent: no new extremes; they rise. -/
theorem pos_taps {kind : Int} {pa W X : Nat} (hX : tapE kind pa W X = 0) (hk : kind ≠ 3) : TOk pa (tpA kind pa W X) ∧ sndSum (tpA kind pa W X) = 65536 ∧ (∀ e ∈ tpA kind pa W X, 0 < e.2) := by
  obtain ⟨hk1, hz1, -, -, -⟩ := tapE_ok hX
  have ok1 := taps_ok hk1 hz1
  have e1 : tpA kind pa W X = tapsL (wlsV kind pa W X) := by unfold tpA; rw [if_pos hX]; rfl
  refine ⟨tpA_tok hX, by rw [e1]; exact ok1.sum, fun e he => ?_⟩
  rw [e1] at he
  have := ok1.at_ e he
  have h1 := this.2.2.1
  have h2 := this.2.2.2.1 hk
  omega
theorem whl_between {kind : Int} {pa pb W H X Y : Nat} {S : List Nat} {lo hi : Nat} (hk : kind ≠ 3) (hX : tapE kind pa W X = 0) (hY : tapE kind pb H Y = 0) (hlo : rung32 lo < 2139095040 ∧ lo < 4294967296) (hhi : rung32 hi < 2139095040 ∧ hi < 4294967296) (hS : ∀ i, i < pa * pb → rung32 (S.getD i 0) < 2139095040 ∧ srung32 lo ≤ srung32 (S.getD i 0) ∧ srung32 (S.getD i 0) ≤ srung32 hi) :
    srung32 lo ≤ srung32 (whlV kind pa pb W H S X Y) ∧ srung32 (whlV kind pa pb W H S X Y) ≤ srung32 hi ∧ rung32 (whlV kind pa pb W H S X Y) < 2139095040 := by
  obtain ⟨t1, s1, p1⟩ := pos_taps hX hk
  obtain ⟨t2, s2, p2⟩ := pos_taps hY hk
  have hin : ∀ y, y < pb → ∀ e ∈ tpA kind pa W X, (S.drop (y * pa)).getD e.1.toNat 0 = S.getD (y * pa + e.1.toNat) 0 ∧ y * pa + e.1.toNat < pa * pb := fun y hy e he => by
    have h := t1.pl e he
    have hi : e.1.toNat < pa := by omega
    refine ⟨by rw [List.getD_eq_getElem?_getD, List.getElem?_drop, ← List.getD_eq_getElem?_getD], ?_⟩
    have : (y + 1) * pa ≤ pb * pa := Nat.mul_le_mul_right _ hy
    rw [Nat.mul_comm pa pb]
    rw [Nat.add_mul, Nat.one_mul] at this
    omega
  have hcol : ∀ y, y < pb → srung32 lo ≤ srung32 (colV (tpA kind pa W X) S pa y) ∧ srung32 (colV (tpA kind pa W X) S pa y) ≤ srung32 hi ∧ rung32 (colV (tpA kind pa W X) S pa y) < 2139095040 := fun y hy => by
    unfold colV
    refine smp_between t1 p1 s1 (tpA_abs hX) (fun e he => ?_) hlo hhi (fun e he => ?_) (fun e he => ?_)
    · rw [(hin y hy e he).1]; exact (hS _ (hin y hy e he).2).1
    · rw [(hin y hy e he).1]; exact (hS _ (hin y hy e he).2).2.1
    · rw [(hin y hy e he).1]; exact (hS _ (hin y hy e he).2).2.2
  have ew : whlV kind pa pb W H S X Y = smpV (tpA kind pb H Y) (tabN pb (colV (tpA kind pa W X) S pa)) := rfl
  rw [ew]
  have hg : ∀ e ∈ tpA kind pb H Y, e.1.toNat < pb := fun e he => by have h := t2.pl e he; omega
  refine smp_between t2 p2 s2 (tpA_abs hY) (fun e he => ?_) hlo hhi (fun e he => ?_) (fun e he => ?_)
  · rw [tabN_getD (hg e he)]; exact (hcol _ (hg e he)).2.2
  · rw [tabN_getD (hg e he)]; exact (hcol _ (hg e he)).1
  · rw [tabN_getD (hg e he)]; exact (hcol _ (hg e he)).2.1
theorem fin_lohi : rung32 4286578687 < 2139095040 ∧ rung32 2139095039 < 2139095040 ∧ srung32 4286578687 = -2139095039 ∧ srung32 2139095039 = 2139095039 := by decide
theorem whl_rises {kind : Int} {pa pb W H X Y : Nat} {S U : List Nat} (hk : kind ≠ 3) (hX : tapE kind pa W X = 0) (hY : tapE kind pb H Y = 0) (hS : ∀ i, i < pa * pb → rung32 (S.getD i 0) < 2139095040) (hU : ∀ i, i < pa * pb → rung32 (U.getD i 0) < 2139095040) (hle : ∀ i, i < pa * pb → srung32 (S.getD i 0) ≤ srung32 (U.getD i 0)) :
    srung32 (whlV kind pa pb W H S X Y) ≤ srung32 (whlV kind pa pb W H U X Y) := by
  obtain ⟨t1, s1, p1⟩ := pos_taps hX hk
  obtain ⟨t2, s2, p2⟩ := pos_taps hY hk
  obtain ⟨l1, l2, l3, l4⟩ := fin_lohi
  have hin : ∀ (V : List Nat) y, y < pb → ∀ e ∈ tpA kind pa W X, (V.drop (y * pa)).getD e.1.toNat 0 = V.getD (y * pa + e.1.toNat) 0 ∧ y * pa + e.1.toNat < pa * pb := fun V y hy e he => by
    have h := t1.pl e he
    have hi : e.1.toNat < pa := by omega
    refine ⟨by rw [List.getD_eq_getElem?_getD, List.getElem?_drop, ← List.getD_eq_getElem?_getD], ?_⟩
    have : (y + 1) * pa ≤ pb * pa := Nat.mul_le_mul_right _ hy
    rw [Nat.mul_comm pa pb]
    rw [Nat.add_mul, Nat.one_mul] at this
    omega
  have hf : ∀ (V : List Nat), (∀ i, i < pa * pb → rung32 (V.getD i 0) < 2139095040) → ∀ y, y < pb → rung32 (colV (tpA kind pa W X) V pa y) < 2139095040 := fun V hV y hy => by
    unfold colV
    refine (smp_between (lo := 4286578687) (hi := 2139095039) t1 p1 s1 (tpA_abs hX) (fun e he => ?_) ⟨l1, by decide⟩ ⟨l2, by decide⟩ (fun e he => ?_) (fun e he => ?_)).2.2
    · rw [(hin V y hy e he).1]; exact hV _ (hin V y hy e he).2
    · have := fin_srung (hV _ (hin V y hy e he).2)
      rw [(hin V y hy e he).1, l3]; omega
    · have := fin_srung (hV _ (hin V y hy e he).2)
      rw [(hin V y hy e he).1, l4]; omega
  have hg : ∀ e ∈ tpA kind pb H Y, e.1.toNat < pb := fun e he => by have h := t2.pl e he; omega
  have ew : ∀ V, whlV kind pa pb W H V X Y = smpV (tpA kind pb H Y) (tabN pb (colV (tpA kind pa W X) V pa)) := fun V => rfl
  rw [ew, ew]
  refine smp_rises t2 p2 (fun e he => ?_) (fun e he => ?_) (fun e he => ?_)
  · rw [tabN_getD (hg e he)]; exact hf S hS _ (hg e he)
  · rw [tabN_getD (hg e he)]; exact hf U hU _ (hg e he)
  · rw [tabN_getD (hg e he), tabN_getD (hg e he)]
    unfold colV
    refine smp_rises t1 p1 (fun d hd => ?_) (fun d hd => ?_) (fun d hd => ?_)
    · rw [(hin S _ (hg e he) d hd).1]; exact hS _ (hin S _ (hg e he) d hd).2
    · rw [(hin U _ (hg e he) d hd).1]; exact hU _ (hin U _ (hg e he) d hd).2
    · rw [(hin S _ (hg e he) d hd).1, (hin U _ (hg e he) d hd).1]; exact hle _ (hin S _ (hg e he) d hd).2
end Go.Proofs.Ytcolhgngiflkhaa
/- The laws' own helpers: finite, small. -/
namespace Go.Proofs.Ytcolhgngiflkhaa
open Go.RowKit
set_option linter.unusedVariables false
set_option linter.unusedSimpArgs false

theorem and_31k (s : Int) (h0 : 0 ≤ s) (h1 : s ≤ 4294967295) : bits .and .u32 s 2147483647 = s % 2147483648 := by go_bits2
theorem and_rung {x : Nat} (hx : x < 4294967296) : bits .and .u32 (x : Int) 2147483647 = ((rung32 x : Nat) : Int) := by
  rw [and_31k _ (by omega) (by omega)]
  unfold rung32
  omega
set_option maxHeartbeats 2000000 in
set_option maxRecDepth 100000 in
theorem finite_any (x : Nat) (hx : x < 4294967296) (w : World) :
    Calls Try.prog 9 #[.int .u32 (x : Int)] w fun e w' => e = .returned (.bool (decide (rung32 x < 2139095040))) ∧ w' = w := by
  have h1 := and_rung hx
  rcases Nat.lt_or_ge (rung32 x) 2139095040 with h | h
  · rw [decide_eq_true h]
    have h2 : ((rung32 x : Nat) : Int) < 2139095040 := by omega
    generalize rung32 x = r at *
    go_enter Try.func9, Try.ntmps9
    go_wp2_with fail
    go_ret
    exact ⟨rfl, rfl⟩
  · rw [decide_eq_false (by omega)]
    have h2 : ¬ ((rung32 x : Nat) : Int) < 2139095040 := by omega
    generalize rung32 x = r at *
    go_enter Try.func9, Try.ntmps9
    go_wp2_with fail
    go_ret
    exact ⟨rfl, rfl⟩
def smlB (W H : Int) : Bool := decide (W < 1 ∨ H < 1 ∨ W > 6000 ∨ H > 6000 ∨ W * H ≤ 3000)
set_option maxHeartbeats 2000000 in
set_option maxRecDepth 100000 in
theorem small_any (W H : Int) (w : World) :
    Calls Try.prog 7 #[.agg #[.int .i64 0, .int .i64 0, .slice none 0 0], .int .i64 W, .int .i64 H] w fun e w' => e = .returned (.bool (smlB W H)) ∧ Q w w' := by
  have HQ : Hid (Q w (w.alloc (.cells #[.int .i64 0, .int .i64 0, .slice none 0 0] 24))) := (Q.refl w).cells _ _
  have E : Hid (smlB W H = decide (W < 1 ∨ H < 1 ∨ W > 6000 ∨ H > 6000 ∨ W * H ≤ 3000)) := rfl
  generalize smlB W H = b at *
  rcases Int.lt_or_le W 1 with h1 | h1
  · obtain rfl : b = true := by rw [E.out]; exact decide_eq_true (Or.inl h1)
    clear E
    go_enter Try.func7, Try.ntmps7
    go_wp2_with fail
    exact bodyPost_ret (v := .bool true) (by simp [results, Try.results7, go_sem]) rfl ⟨rfl, HQ.out⟩
  rcases Int.lt_or_le H 1 with h2 | h2
  · obtain rfl : b = true := by rw [E.out]; exact decide_eq_true (Or.inr (Or.inl h2))
    clear E
    go_enter Try.func7, Try.ntmps7
    go_wp2_with fail
    exact bodyPost_ret (v := .bool true) (by simp [results, Try.results7, go_sem]) rfl ⟨rfl, HQ.out⟩
  rcases Int.lt_or_le 6000 W with h3 | h3
  · obtain rfl : b = true := by rw [E.out]; exact decide_eq_true (Or.inr (Or.inr (Or.inl h3)))
    clear E
    go_enter Try.func7, Try.ntmps7
    go_wp2_with fail
    exact bodyPost_ret (v := .bool true) (by simp [results, Try.results7, go_sem]) rfl ⟨rfl, HQ.out⟩
  rcases Int.lt_or_le 6000 H with h4 | h4
  · obtain rfl : b = true := by rw [E.out]; exact decide_eq_true (Or.inr (Or.inr (Or.inr (Or.inl h4))))
    clear E
    go_enter Try.func7, Try.ntmps7
    go_wp2_with fail
    exact bodyPost_ret (v := .bool true) (by simp [results, Try.results7, go_sem]) rfl ⟨rfl, HQ.out⟩
  have hb1 : 0 ≤ W * H := Int.mul_nonneg (by omega) (by omega)
  have hb2 : W * H ≤ 36000000 := Int.le_trans (Int.mul_le_mul h3 h4 (by omega) (by omega)) (by decide)
  rcases Int.lt_or_le 3000 (W * H) with h5 | h5
  · obtain rfl : b = false := by rw [E.out]; exact decide_eq_false (by omega)
    clear E
    go_enter Try.func7, Try.ntmps7
    go_wp2_with fail
    exact bodyPost_ret (v := .bool false) (by simp [results, Try.results7, go_sem]; exact ⟨⟨⟨⟨h1, h2⟩, h3⟩, h4⟩, h5⟩) rfl ⟨rfl, HQ.out⟩
  · obtain rfl : b = true := by rw [E.out]; exact decide_eq_true (by omega)
    clear E
    go_enter Try.func7, Try.ntmps7
    go_wp2_with fail
    exact bodyPost_ret (v := .bool true) (by simp [results, Try.results7, go_sem]) rfl ⟨rfl, HQ.out⟩
end Go.Proofs.Ytcolhgngiflkhaa
