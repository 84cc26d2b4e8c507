/- Sizes, borders: the program's and the document's. -/
import Derived.Test.YtcolhgngiflkhaaG9907aa2c
import Derived.Test.YtcolhgngiflkhaaG12cbb692
import Derived.Test.YtcolhgngiflkhaaG68a2216b
namespace Go.Proofs.Ytcolhgngiflkhaa
open Go.RowKit
set_option linter.unusedVariables false
set_option linter.unusedSimpArgs false

def sizeB (W H : Int) : Bool := decide (1 ≤ W) && decide (W ≤ 1024) && decide (1 ≤ H) && decide (H ≤ 1024) && decide (W * H ≤ 65536)
theorem sizeB_true {W H : Int} : sizeB W H = true ↔ SizeB W H := by
  unfold sizeB SizeB
  simp only [Bool.and_eq_true, decide_eq_true_eq]
  constructor
  · rintro ⟨⟨⟨⟨a, b⟩, c⟩, d⟩, e⟩; exact ⟨a, b, c, d, e⟩
  · rintro ⟨a, b, c, d, e⟩; exact ⟨⟨⟨⟨a, b⟩, c⟩, d⟩, e⟩
theorem sizeB_false {W H : Int} (h : ¬ SizeB W H) : sizeB W H = false := by
  cases g : sizeB W H
  · rfl
  · exact absurd (sizeB_true.1 g) h
def sideB (n : Int) : Bool := decide (1 ≤ n) && decide (n ≤ 1024)
theorem sizeB_eq (W H : Int) : sizeB W H = (sideB W && (sideB H && decide (W * H ≤ 65536))) := by
  unfold sizeB sideB
  cases decide (1 ≤ W) <;> cases decide (W ≤ 1024) <;> cases decide (1 ≤ H) <;> cases decide (H ≤ 1024) <;> rfl
theorem sideB_true {n : Int} : sideB n = true ↔ 1 ≤ n ∧ n ≤ 1024 := by
  unfold sideB; simp
theorem area_le {a b : Int} (ha : 1 ≤ a ∧ a ≤ 1024) (hb : 1 ≤ b ∧ b ≤ 1024) : 1 ≤ a * b ∧ a * b ≤ 1048576 := by
  have h1 : a * b ≤ 1024 * b := Int.mul_le_mul_of_nonneg_right ha.2 (by omega)
  have h2 : 1 * b ≤ a * b := Int.mul_le_mul_of_nonneg_right ha.1 (by omega)
  omega

theorem isSide_any (n : Int) (w : World) : Calls Try.prog 38 #[.int .i64 n] w fun e w' => e = .returned (.bool (sideB n)) ∧ w' = w := by
  by_cases h1 : 1 ≤ n
  · by_cases h2 : n ≤ 1024
    · have e : sideB n = true := sideB_true.2 ⟨h1, h2⟩
      rw [e]
      clear e
      go_enter Try.func38, Try.ntmps38
      go_wp2_with fail
      go_ret
      exact ⟨rfl, rfl⟩
    · have e : sideB n = false := by unfold sideB; simp [h2]
      rw [e]
      clear e
      go_enter Try.func38, Try.ntmps38
      go_wp2_with fail
      go_ret
      exact ⟨rfl, rfl⟩
  · have e : sideB n = false := by unfold sideB; simp [h1]
    rw [e]
    clear e
    go_enter Try.func38, Try.ntmps38
    go_wp2_with fail
    go_ret
    exact ⟨rfl, rfl⟩
theorem isSize_any (W H : Int) (w : World) : Calls Try.prog 31 #[.int .i64 W, .int .i64 H] w fun e w' => e = .returned (.bool (sizeB W H)) ∧ w' = w := by
  rw [sizeB_eq]
  cases hW : sideB W
  · have A : Calls Try.prog 38 #[.int .i64 W] w fun e w' => e = .returned (.bool false) ∧ w' = w := hW ▸ isSide_any W w
    go_enter Try.func31, Try.ntmps31
    go_wp2_with (go_at_call 38; refine A.mono ?_; rintro e w1 ⟨rfl, rfl⟩)
    go_ret
    exact ⟨rfl, rfl⟩
  · have A : Calls Try.prog 38 #[.int .i64 W] w fun e w' => e = .returned (.bool true) ∧ w' = w := hW ▸ isSide_any W w
    cases hH : sideB H
    · have B : Calls Try.prog 38 #[.int .i64 H] w fun e w' => e = .returned (.bool false) ∧ w' = w := hH ▸ isSide_any H w
      go_enter Try.func31, Try.ntmps31
      go_wp2_with fail
      refine A.mono ?_
      rintro e w1 ⟨rfl, rfl⟩
      go_wp2_with fail
      refine B.mono ?_
      rintro e w1 ⟨rfl, rfl⟩
      go_wp2_with fail
      go_ret
      exact ⟨rfl, rfl⟩
    · have B : Calls Try.prog 38 #[.int .i64 H] w fun e w' => e = .returned (.bool true) ∧ w' = w := hH ▸ isSide_any H w
      have h1 := sideB_true.1 hW
      have h2 := sideB_true.1 hH
      have h3 := area_le h1 h2
      clear hW hH
      by_cases h4 : W * H ≤ 65536
      · rw [decide_eq_true h4]
        generalize hA : W * H = A0 at h3 h4
        go_enter Try.func31, Try.ntmps31
        go_wp2_with fail
        refine A.mono ?_
        rintro e w1 ⟨rfl, rfl⟩
        go_wp2_with fail
        refine B.mono ?_
        rintro e w1 ⟨rfl, rfl⟩
        go_wp2_with fail
        go_ret
        exact ⟨rfl, rfl⟩
      · rw [decide_eq_false h4]
        generalize hA : W * H = A0 at h3 h4
        have h5 : decide (A0 ≤ 65536) = false := decide_eq_false h4
        go_enter Try.func31, Try.ntmps31
        go_wp2_with fail
        refine A.mono ?_
        rintro e w1 ⟨rfl, rfl⟩
        go_wp2_with fail
        refine B.mono ?_
        rintro e w1 ⟨rfl, rfl⟩
        go_wp2_with fail
        go_ret
        exact ⟨rfl, rfl⟩

/-- What is wrong with a plane. -/
def chk (W H : Int) (n : Nat) : Int := if sizeB W H = true then (if (n : Int) = W * H then 0 else 51) else 50
theorem chk_bad {W H : Int} {n : Nat} (h : sizeB W H = false) : chk W H n = 50 := by unfold chk; rw [h]; rfl
theorem chk_count {W H : Int} {n : Nat} (h : sizeB W H = true) (hn : (n : Int) ≠ W * H) : chk W H n = 51 := by unfold chk; rw [if_pos h, if_neg hn]
theorem chk_ok {W H : Int} {n : Nat} (h : sizeB W H = true) (hn : (n : Int) = W * H) : chk W H n = 0 := by unfold chk; rw [if_pos h, if_pos hn]
theorem chk_zero {W H : Int} {n : Nat} (h : chk W H n = 0) : ∃ a b : Nat, W = a ∧ H = b ∧ Size a b ∧ n = a * b := by
  unfold chk at h
  by_cases g : sizeB W H = true
  · rw [if_pos g] at h
    by_cases g2 : (n : Int) = W * H
    · obtain ⟨a, b, rfl, rfl, hs⟩ := (sizeB_true.1 g).nat
      refine ⟨a, b, rfl, rfl, hs, ?_⟩
      rw [← Int.natCast_mul] at g2
      omega
    · rw [if_neg g2] at h; exact absurd h (by decide)
  · rw [if_neg g] at h; exact absurd h (by decide)
theorem chk_size {a b : Nat} (h : Size a b) : chk a b (a * b) = 0 := chk_ok (sizeB_true.2 h.b) (by rw [Int.natCast_mul])
theorem chk_cases (W H : Int) (n : Nat) : chk W H n = 50 ∨ chk W H n = 51 ∨ chk W H n = 0 := by
  unfold chk; split
  · split <;> simp
  · simp
set_option maxHeartbeats 1000000 in
theorem check_any (W H : Int) (a : Option Addr) (n c : Nat) (hn : n ≤ 9223372036854775807) (w : World) :
    Calls Try.prog 25 #[.agg #[.int .i64 W, .int .i64 H, .slice a n c]] w fun e w' => e = .returned (.int .i64 (chk W H n)) ∧ Q w w' := by
  have q0 : ∀ c t, Q w (w.alloc (.cells c t)) := fun c t => (Q.refl w).cells c t
  have Q0 : Hid (∀ c t, Q w (w.alloc (.cells c t))) := q0
  clear q0
  cases hS : sizeB W H
  · have A : ∀ w : World, Calls Try.prog 31 #[.int .i64 W, .int .i64 H] w fun e w' => e = .returned (.bool false) ∧ w' = w := fun w => hS ▸ isSize_any W H w
    rw [chk_bad hS]
    clear hS
    go_enter Try.func25, Try.ntmps25
    go_wp2_with (go_at_call 31; refine (A _).mono ?_; rintro e w1 ⟨rfl, rfl⟩)
    go_ret
    exact ⟨rfl, Q0.out _ _⟩
  · have A : ∀ w : World, Calls Try.prog 31 #[.int .i64 W, .int .i64 H] w fun e w' => e = .returned (.bool true) ∧ w' = w := fun w => hS ▸ isSize_any W H w
    obtain ⟨h1, h2, h3, h4, h5⟩ := sizeB_true.1 hS
    have h6 := area_le ⟨h1, h2⟩ ⟨h3, h4⟩
    by_cases hc : (n : Int) = W * H
    · rw [chk_ok hS hc]
      have hw : IntKind.i64.wrap (W * H) = W * H := by rw [IntKind.wrap_i64]; omega
      have hb : ((n : Int) == W * H) = true := by rw [hc]; simp
      have hb2 : ((n : Int) != W * H) = false := by rw [hc]; simp
      clear hS hc h5 h6 h1 h2 h3 h4
      go_enter Try.func25, Try.ntmps25
      go_wp2_with (go_at_call 31; refine (A _).mono ?_; rintro e w1 ⟨rfl, rfl⟩)
      go_ret
      exact ⟨rfl, Q0.out _ _⟩
    · rw [chk_count hS hc]
      have hw : IntKind.i64.wrap (W * H) = W * H := by rw [IntKind.wrap_i64]; omega
      have hb : ((n : Int) == W * H) = false := by rw [beq_eq_false_iff_ne]; exact hc
      have hb2 : ((n : Int) != W * H) = true := by rw [bne_iff_ne]; exact hc
      clear hS hc h5 h6 h1 h2 h3 h4
      go_enter Try.func25, Try.ntmps25
      go_wp2_with (go_at_call 31; refine (A _).mono ?_; rintro e w1 ⟨rfl, rfl⟩)
      go_ret
      exact ⟨rfl, Q0.out _ _⟩

theorem tmod_mod (i n : Int) (hn : 0 < n) : (0 ≤ Int.tmod i n → Int.tmod i n = i % n) ∧ (Int.tmod i n < 0 → Int.tmod i n + n = i % n) ∧ -n < Int.tmod i n ∧ Int.tmod i n < n := by
  have e : n * Int.tdiv i n + Int.tmod i n = i := Int.mul_tdiv_add_tmod i n
  have l1 := Int.tmod_lt_of_pos i hn
  have l2 : -n < Int.tmod i n := Int.lt_tmod_of_pos i hn
  have e2 : i % n = Int.tmod i n % n := by
    conv => lhs; rw [← e]
    rw [Int.add_comm, Int.add_mul_emod_self_left]
  refine ⟨fun h => ?_, fun h => ?_, l2, l1⟩
  · rw [e2, Int.emod_eq_of_lt h l1]
  · rw [e2, ← Int.add_emod_right, Int.emod_eq_of_lt (by omega) (by omega)]
end Go.Proofs.Ytcolhgngiflkhaa
/- What Plane refuses; Plane. -/
namespace Go.Proofs.Ytcolhgngiflkhaa
open Go.RowKit
set_option linter.unusedVariables false
set_option linter.unusedSimpArgs false

theorem chk_is50 (W H : Int) : (chk W H 0 != 50) = sizeB W H := by
  unfold chk
  cases sizeB W H
  · rfl
  · rw [if_pos rfl]; split <;> rfl
set_option maxHeartbeats 1000000 in
set_option maxRecDepth 100000 in
theorem issize_any (W H : Int) (w : World) : Calls Try.prog 26 #[.int .i64 W, .int .i64 H] w fun e w' => e = .returned (.bool (sizeB W H)) ∧ Q w w' := by
  have C := check_any W H none 0 0 (by decide) w
  have HS : Hid ((chk W H 0 != 50) = sizeB W H) := chk_is50 W H
  generalize chk W H 0 = E at *
  go_enter Try.func26, Try.ntmps26
  go_wp2_with fail
  refine C.mono ?_
  rintro e w1 ⟨rfl, q1⟩
  have HQ : Hid (Q w w1) := q1
  clear C q1
  go_wp2_with fail
  go_ret
  exact ⟨by rw [← HS.out]; rfl, HQ.out⟩
/-- Plane's errors. -/
def plnE (pw ph : Int) (n : Nat) (kind W H : Int) : Int := if chk pw ph n = 0 then (if sizeB W H = true then (if tapE kind pw W 0 = 0 then tapE kind ph H 0 else tapE kind pw W 0) else 100) else chk pw ph n
set_option maxHeartbeats 2000000 in
set_option maxRecDepth 100000 in
theorem refplane_any (pw ph : Int) (ad : Option Addr) (n c : Nat) (kind W H : Int) (hn : n ≤ 9223372036854775807) (w : World) :
    Calls Try.prog 16 #[.agg #[.int .i64 pw, .int .i64 ph, .slice ad n c], .int .i64 kind, .int .i64 W, .int .i64 H] w fun e w' => e = .returned (.int .i64 (plnE pw ph n kind W H)) ∧ Q w w' := by
  obtain ⟨w1, hw1⟩ : ∃ w1, w.alloc (.cells #[.int .i64 pw, .int .i64 ph, .slice ad n c] 24) = w1 := ⟨_, rfl⟩
  have q1 : Q w w1 := by rw [← hw1]; exact (Q.refl w).cells _ _
  have k0 : w1.cell? ⟨w.heap.size, 0, none⟩ = some (.int .i64 pw) := by rw [← hw1]; simp [go_sem]
  have k1 : w1.cell? ⟨w.heap.size, 1, none⟩ = some (.int .i64 ph) := by rw [← hw1]; simp [go_sem]
  have k2 : w1.cell? ⟨w.heap.size, 2, none⟩ = some (.slice ad n c) := by rw [← hw1]; simp [go_sem]
  have C1 := check_any pw ph ad n c hn w1
  have HC2 : Hid (∀ x : World, Calls Try.prog 26 #[.int .i64 W, .int .i64 H] x fun e w' => e = .returned (.bool (sizeB W H)) ∧ Q x w') := fun x => issize_any W H x
  have HC3 : Hid (∀ (F T : Int) (x : World), Calls Try.prog 20 #[.int .i64 kind, .int .i64 F, .int .i64 T] x fun e w' => e = .returned (.int .i64 (tapE kind F T 0)) ∧ Q x w') := fun F T x => refusal_any kind F T x
  have HP : Hid (plnE pw ph n kind W H = if chk pw ph n = 0 then (if sizeB W H = true then (if tapE kind pw W 0 = 0 then tapE kind ph H 0 else tapE kind pw W 0) else 100) else chk pw ph n) := rfl
  have HQ1 : Hid (Q w w1) := q1
  have HK : Hid (w1.cell? ⟨w.heap.size, 0, none⟩ = some (.int .i64 pw) ∧ w1.cell? ⟨w.heap.size, 1, none⟩ = some (.int .i64 ph)) := ⟨k0, k1⟩
  rw [HP.out]
  clear HP q1
  by_cases hc : chk pw ph n = 0
  · rw [if_pos hc]
    rw [hc] at C1
    cases hs : sizeB W H
    · rw [if_neg (by simp)]
      rw [hs] at HC2
      go_enter Try.func16, Try.ntmps16
      go_wp2_with fail
      refine C1.mono ?_
      rintro e w2 ⟨rfl, q2⟩
      clear C1
      have HQ2 : Hid (Q w w2) := HQ1.out.trans q2
      go_wp2_with fail
      refine (HC2.out w2).mono ?_
      rintro e w3 ⟨rfl, q3⟩
      have HQ3 : Hid (Q w w3) := HQ2.out.trans q3
      clear q2 q3
      go_wp2_with fail
      go_ret
      exact ⟨rfl, HQ3.out⟩
    · rw [if_pos rfl]
      rw [hs] at HC2
      have C3 := HC3.out pw W
      by_cases ht : tapE kind pw W 0 = 0
      · rw [if_pos ht]
        have HT : Hid (∀ x : World, Calls Try.prog 20 #[.int .i64 kind, .int .i64 pw, .int .i64 W] x fun e w' => e = .returned (.int .i64 0) ∧ Q x w') := by rw [ht] at C3; exact C3
        have HT2 : Hid (∀ x : World, Calls Try.prog 20 #[.int .i64 kind, .int .i64 ph, .int .i64 H] x fun e w' => e = .returned (.int .i64 (tapE kind ph H 0)) ∧ Q x w') := HC3.out ph H
        generalize tapE kind ph H 0 = E at *
        clear C3 HC3 ht hc hs
        go_enter Try.func16, Try.ntmps16
        go_wp2_with fail
        refine C1.mono ?_
        rintro e w2 ⟨rfl, q2⟩
        clear C1
        have HQ2 : Hid (Q w w2) := HQ1.out.trans q2
        have HQ2' : Hid (Q w1 w2) := q2
        go_wp2_with fail
        refine (HC2.out w2).mono ?_
        rintro e w3 ⟨rfl, q3⟩
        have HQ3 : Hid (Q w1 w3) := HQ2'.out.trans q3
        have m0 := HQ3.out.cell HK.out.1
        clear q2 q3
        go_wp2_with fail
        refine (HT.out w3).mono ?_
        rintro e w4 ⟨rfl, q4⟩
        have HQ4 : Hid (Q w1 w4) := HQ3.out.trans q4
        have m1 := HQ4.out.cell HK.out.2
        clear q4 m0
        go_wp2_with fail
        refine (HT2.out w4).mono ?_
        rintro e w5 ⟨rfl, q5⟩
        have HQ5 : Hid (Q w w5) := HQ1.out.trans (HQ4.out.trans q5)
        clear q5 m1
        go_wp2_with fail
        go_ret
        exact ⟨rfl, HQ5.out⟩
      · rw [if_neg ht]
        have HT : Hid (∀ x : World, Calls Try.prog 20 #[.int .i64 kind, .int .i64 pw, .int .i64 W] x fun e w' => e = .returned (.int .i64 (tapE kind pw W 0)) ∧ Q x w') := C3
        generalize tapE kind pw W 0 = E at *
        have hEb : (E != 0) = true := by simpa using ht
        clear C3 HC3 hc hs
        go_enter Try.func16, Try.ntmps16
        go_wp2_with fail
        refine C1.mono ?_
        rintro e w2 ⟨rfl, q2⟩
        clear C1
        have HQ2' : Hid (Q w1 w2) := q2
        go_wp2_with fail
        refine (HC2.out w2).mono ?_
        rintro e w3 ⟨rfl, q3⟩
        have HQ3 : Hid (Q w1 w3) := HQ2'.out.trans q3
        have m0 := HQ3.out.cell HK.out.1
        clear q2 q3
        go_wp2_with fail
        refine (HT.out w3).mono ?_
        rintro e w4 ⟨rfl, q4⟩
        have HQ4 : Hid (Q w w4) := HQ1.out.trans (HQ3.out.trans q4)
        clear q4 m0
        go_wp2_with fail
        go_ret
        exact ⟨rfl, HQ4.out⟩
  · rw [if_neg hc]
    generalize chk pw ph n = E at *
    have hEb : (E != 0) = true := by simpa using hc
    go_enter Try.func16, Try.ntmps16
    go_wp2_with fail
    refine C1.mono ?_
    rintro e w2 ⟨rfl, q2⟩
    clear C1
    have HQ2 : Hid (Q w w2) := HQ1.out.trans q2
    clear q2
    go_wp2_with fail
    go_ret
    exact ⟨rfl, HQ2.out⟩
end Go.Proofs.Ytcolhgngiflkhaa
/- Pieces of planes of other sizes: Plane, Part. -/
namespace Go.Proofs.Ytcolhgngiflkhaa
open Go.RowKit
set_option linter.unusedVariables false
set_option linter.unusedSimpArgs false

/-- The sample at a place of the plane of another size. -/
def whlV (kind : Int) (pa pb W H : Nat) (S : List Nat) (X Y : Nat) : Nat := smpV (tpA kind pb H Y) (tabN pb (colV (tpA kind pa W X) S pa))
theorem tpA_rise {kind F T i : Int} (h : tapE kind F T i = 0) : (tpA kind F T i).Pairwise (fun x y => x.1 < y.1) := by
  obtain ⟨hk, hz, e1, e2, e3⟩ := tapE_ok h
  have ok := taps_ok hk hz
  unfold tpA
  rw [if_pos h]
  exact ok.rise
theorem line_j (kind : Int) (F T lo n : Nat) (x1 : Int) (hx1 : x1 = ((lo + n : Nat) : Int)) (hE : tapE kind F T 0 = 0) (hn : 1 ≤ n) (hT : lo + n ≤ T) (hT2 : T ≤ 1024) (x : World) :
    Calls Try.prog 21 #[.int .i64 kind, .int .i64 (F : Int), .int .i64 (T : Int), .int .i64 (lo : Int), .int .i64 x1] x fun e x' => ∃ v, e = .returned v ∧ LnJ x.heap.size x'.heap.size x' v ((List.range n).map fun (k : Nat) => tpA kind F T ((lo + k : Nat) : Int)) ∧ Q x x' := by
  subst hx1
  refine (lineOf_any kind F T lo n x (by omega) (by omega)).mono ?_
  rintro e x' ⟨v, h1, h2, h3⟩
  refine ⟨v, h1, h2.j (by rw [List.length_map, List.length_range]; exact hn) (fun L hL => ?_), h3⟩
  obtain ⟨k, hk, rfl⟩ := List.mem_map.1 hL
  have := List.mem_range.1 hk
  exact (tpA_tok (tapE_at hE (k := lo + k) (by omega))).one
theorem range_getD {n : Nat} {f : Nat → List (Int × Int)} {k : Nat} (h : k < n) : ((List.range n).map f).getD k [] = f k := by
  rw [List.getD_eq_getElem?_getD, List.getElem?_map, List.getElem?_range h]; rfl
theorem piece_rect (kind : Int) (pa pb W H x0 y0 nx ny : Nat) (x1 y1 : Int) (sv : Value) (S : List Nat) (w : World) (hsv : USl w sv S) (hsz : Size pa pb) (hS : S.length = pa * pb) (hb : ∀ i, S.getD i 0 < 4294967296)
    (hE1 : tapE kind pa W 0 = 0) (hE2 : tapE kind pb H 0 = 0) (hx : x1 = ((x0 + nx : Nat) : Int)) (hy : y1 = ((y0 + ny : Nat) : Int)) (hx1 : 1 ≤ nx) (hy1 : 1 ≤ ny) (hxW : x0 + nx ≤ W) (hyH : y0 + ny ≤ H) (hW : W ≤ 1024) (hH : H ≤ 1024) :
    Calls Try.prog 17 #[.agg #[.int .i64 (pa : Int), .int .i64 (pb : Int), sv], .int .i64 kind, .int .i64 (W : Int), .int .i64 (H : Int), .agg #[.int .i64 (x0 : Int), .int .i64 (y0 : Int), .int .i64 x1, .int .i64 y1]] w fun e w' => ∃ g, e = .returned (.agg #[.int .i64 (nx : Int), .int .i64 (ny : Int), .slice (some ⟨g, 0, none⟩) (nx * ny) (nx * ny)]) ∧ URow w' g (tabN (nx * ny) fun i => whlV kind pa pb W H S (x0 + i % nx) (y0 + i / nx)) ∧ w.heap.size ≤ g ∧ Q w w' := by
  have C := piece_any kind W H x0 x1 y0 y1 pa pb nx ny _ _ sv S w (line_j kind pa W x0 nx x1 hx hE1 hx1 hxW hW) (line_j kind pb H y0 ny y1 hy hE2 hy1 hyH hH) hsv hsz hS hb (fun L hL => by
    obtain ⟨k, hk, rfl⟩ := List.mem_map.1 hL
    have := List.mem_range.1 hk
    have := tpA_tok (tapE_at hE1 (k := x0 + k) (by omega))
    rw [Int.toNat_natCast] at this
    exact this) (fun L hL => by
    obtain ⟨k, hk, rfl⟩ := List.mem_map.1 hL
    have := List.mem_range.1 hk
    have h1 := tpA_tok (tapE_at hE2 (k := y0 + k) (by omega))
    rw [Int.toNat_natCast] at h1
    exact ⟨h1, tpA_rise (tapE_at hE2 (k := y0 + k) (by omega))⟩) (by rw [List.length_map, List.length_range]) (by rw [List.length_map, List.length_range]) hx1 hy1 (by omega) (by omega)
  refine C.mono ?_
  rintro e w' ⟨g, h1, h2, h3, h4⟩
  refine ⟨g, h1, ?_, h3, h4⟩
  rw [tabN_congr (g := fun i => whlV kind pa pb W H S (x0 + i % nx) (y0 + i / nx)) (fun i hi => ?_)] at h2
  · exact h2
  · obtain ⟨_, a1, a2⟩ := row_lt hi
    unfold pieceV whlV
    rw [range_getD a1, range_getD a2]
set_option maxHeartbeats 2000000 in
set_option maxRecDepth 100000 in
theorem plane_good (kind : Int) (pa pb W H : Nat) (sv : Value) (S : List Nat) (w : World) (hsv : USl w sv S) (hS : S.length = pa * pb) (hb : ∀ i, S.getD i 0 < 4294967296) (hE : plnE pa pb S.length kind W H = 0) (hsz : Size pa pb) (hWH : Size W H) :
    Calls Try.prog 8 #[.agg #[.int .i64 (pa : Int), .int .i64 (pb : Int), sv], .int .i64 kind, .int .i64 (W : Int), .int .i64 (H : Int)] w fun e w' => ∃ g, e = .returned (.tuple #[.agg #[.int .i64 (W : Int), .int .i64 (H : Int), .slice (some ⟨g, 0, none⟩) (W * H) (W * H)], .int .i64 0]) ∧ URow w' g (tabN (W * H) fun i => whlV kind pa pb W H S (i % W) (i / W)) ∧ w.heap.size ≤ g ∧ Q w w' := by
  obtain ⟨ad, c, rfl⟩ := hsv.form
  have hE1 : tapE kind pa W 0 = 0 ∧ tapE kind pb H 0 = 0 := by
    unfold plnE at hE
    split at hE
    · split at hE
      · split at hE
        · rename_i h; exact ⟨h, hE⟩
        · rename_i h; exact absurd hE h
      · cases hE
    · rename_i h; exact absurd hE h
  have hSl : S.length ≤ 65536 := by rw [hS]; exact hsz.ab
  obtain ⟨w1, hw1⟩ : ∃ w1, (w.alloc (.cells #[.int .i64 (pa : Int), .int .i64 (pb : Int), .slice ad S.length c] 24)).alloc (.cells #[.int .i64 0, .int .i64 0, .slice none 0 0] 24) = w1 := ⟨_, rfl⟩
  have q1 : Q w w1 := by rw [← hw1]; exact ((Q.refl w).cells _ _).cells _ _
  have k0 : w1.cell? ⟨w.heap.size, 0, none⟩ = some (.int .i64 (pa : Int)) := by rw [← hw1]; simp [go_sem]
  have k1 : w1.cell? ⟨w.heap.size, 1, none⟩ = some (.int .i64 (pb : Int)) := by rw [← hw1]; simp [go_sem]
  have k2 : w1.cell? ⟨w.heap.size, 2, none⟩ = some (.slice ad S.length c) := by rw [← hw1]; simp [go_sem]
  have HR : Hid (w1.cell? ⟨w.heap.size + 1, 0, none⟩ = some (.int .i64 0) ∧ w1.cell? ⟨w.heap.size + 1, 1, none⟩ = some (.int .i64 0) ∧ w1.cell? ⟨w.heap.size + 1, 2, none⟩ = some (.slice none 0 0) ∧ (∀ j, w1.frozen? ⟨w.heap.size + 1, j, none⟩ = false) ∧ w1.heap.size = w.heap.size + 2) := by
    rw [← hw1]
    exact ⟨by simp [go_sem], by simp [go_sem], by simp [go_sem], fun j => by simp [go_sem], by simp⟩
  have C1 := refplane_any pa pb ad S.length c kind W H (by omega) w1
  rw [hE] at C1
  have HC2 : Hid (∀ x : World, Q w x → Calls Try.prog 17 #[.agg #[.int .i64 (pa : Int), .int .i64 (pb : Int), .slice ad S.length c], .int .i64 kind, .int .i64 (W : Int), .int .i64 (H : Int), .agg #[.int .i64 0, .int .i64 0, .int .i64 (W : Int), .int .i64 (H : Int)]] x fun e w' => ∃ g, e = .returned (.agg #[.int .i64 (W : Int), .int .i64 (H : Int), .slice (some ⟨g, 0, none⟩) (W * H) (W * H)]) ∧ URow w' g (tabN (W * H) fun i => whlV kind pa pb W H S (i % W) (i / W)) ∧ x.heap.size ≤ g ∧ Q x w') := fun x q => by
    have := piece_rect kind pa pb W H 0 0 W H W H (.slice ad S.length c) S x (hsv.next q) hsz hS hb hE1.1 hE1.2 (by omega) (by omega) hWH.a1 hWH.b1 (by omega) (by omega) hWH.a2 hWH.b2
    simp only [Nat.zero_add] at this
    exact this
  have HQ1 : Hid (Q w w1) := q1
  have HK : Hid (w1.cell? ⟨w.heap.size, 0, none⟩ = some (.int .i64 (pa : Int)) ∧ w1.cell? ⟨w.heap.size, 1, none⟩ = some (.int .i64 (pb : Int)) ∧ w1.cell? ⟨w.heap.size, 2, none⟩ = some (.slice ad S.length c)) := ⟨k0, k1, k2⟩
  obtain ⟨FL, hFL⟩ : ∃ FL, (tabN (W * H) fun i => whlV kind pa pb W H S (i % W) (i / W)) = FL := ⟨_, rfl⟩
  rw [hFL] at HC2 ⊢
  obtain ⟨n, hn⟩ : ∃ n, W * H = n := ⟨_, rfl⟩
  rw [hn] at HC2 ⊢
  generalize S.length = sl at *
  clear q1 hsv hS hb hE hE1 hsz hWH hFL hn hSl
  go_enter Try.func8, Try.ntmps8
  go_wp2_with fail
  refine C1.mono ?_
  rintro e w2 ⟨rfl, q2⟩
  clear C1 k0 k1 k2
  have k0 := q2.cell HK.out.1
  have k1 := q2.cell HK.out.2.1
  have k2 := q2.cell HK.out.2.2
  have HQ2 : Hid (Q w1 w2) := q2
  clear q2 hw1
  go_wp2_with fail
  refine (HC2.out w2 (HQ1.out.trans HQ2.out)).mono ?_
  rintro e w3 ⟨g, rfl, hu, hl, q3⟩
  have o0 := (HQ2.out.trans q3).cell HR.out.1
  have o1 := (HQ2.out.trans q3).cell HR.out.2.1
  have o2 := (HQ2.out.trans q3).cell HR.out.2.2.1
  have fo : ∀ j, w3.frozen? ⟨w.heap.size + 1, j, none⟩ = false := fun j => by rw [(HQ2.out.trans q3).2]; exact HR.out.2.2.2.1 j
  have fo0 := fo 0
  have fo1 := fo 1
  have fo2 := fo 2
  obtain ⟨w9, hw9⟩ : ∃ w9, ((w3.setCell ⟨w.heap.size + 1, 0, none⟩ (.int .i64 (W : Int))).setCell ⟨w.heap.size + 1, 1, none⟩ (.int .i64 (H : Int))).setCell ⟨w.heap.size + 1, 2, none⟩ (.slice (some ⟨g, 0, none⟩) n n) = w9 := ⟨_, rfl⟩
  have hgg : w.heap.size + 1 ≠ g := by
    have := HQ2.out.1.size
    have := HR.out.2.2.2.2
    omega
  have HW : Hid (URow w9 g FL ∧ w.heap.size ≤ g ∧ Q w w9) := by
    refine ⟨?_, ?_, ?_⟩
    · rw [← hw9]
      exact ((hu.other (p := ⟨w.heap.size + 1, 0, none⟩) hgg _).other (p := ⟨w.heap.size + 1, 1, none⟩) hgg _).other (p := ⟨w.heap.size + 1, 2, none⟩) hgg _
    · have := (HQ1.out.trans HQ2.out).1.size
      omega
    · rw [← hw9]
      have hl' : w.heap.size ≤ w.heap.size + 1 := by omega
      exact (((HQ1.out.trans (HQ2.out.trans q3)).set hl' _).set hl' _).set hl' _
  have v0 : w9.cell? ⟨w.heap.size + 1, 0, none⟩ = some (.int .i64 (W : Int)) := by
    rw [← hw9, World.cell?_setCell_other _ _ _ _ (fun e => by injection e with _ e; cases e), World.cell?_setCell_other _ _ _ _ (fun e => by injection e with _ e; cases e)]; exact World.cell?_setCell_same _ _ _ o0
  have v1 : w9.cell? ⟨w.heap.size + 1, 1, none⟩ = some (.int .i64 (H : Int)) := by
    rw [← hw9, World.cell?_setCell_other _ _ _ _ (fun e => by injection e with _ e; cases e)]; exact World.cell?_setCell_same _ _ _ ((World.cell?_setCell_other _ _ _ _ (fun e => by injection e with _ e; cases e)).trans o1)
  have v2 : w9.cell? ⟨w.heap.size + 1, 2, none⟩ = some (.slice (some ⟨g, 0, none⟩) n n) := by
    rw [← hw9]; exact World.cell?_setCell_same _ _ _ ((World.cell?_setCell_other _ _ _ _ (fun e => by injection e with _ e; cases e)).trans ((World.cell?_setCell_other _ _ _ _ (fun e => by injection e with _ e; cases e)).trans o2))
  have HW9 : Hid _ := hw9
  clear fo hu hl q3 hw9 k0 k1 k2
  go_wp2_with fail
  rw [HW9.out]
  exact bodyPost_ret (v := .tuple #[.agg #[.int .i64 (W : Int), .int .i64 (H : Int), .slice (some ⟨g, 0, none⟩) n n], .int .i64 0]) (by simp [results, Try.results8, go_sem, v0, v1, v2]) rfl ⟨g, rfl, HW.out.1, HW.out.2.1, HW.out.2.2⟩
end Go.Proofs.Ytcolhgngiflkhaa
