/- Sizes, borders: the program's and the document's. -/
import Derived.Test.YtlelgifdnhnphabG689f8dff
import Derived.Test.YtlelgifdnhnphabGc8dd0857
namespace Go.Proofs.Ytlelgifdnhnphab
open Go.RowKit
set_option linter.unusedVariables false
set_option linter.unusedSimpArgs false

def sizeB (W H : Int) : Bool := decide (1 ≤ W) && decide (W ≤ 1024) && decide (1 ≤ H) && decide (H ≤ 1024) && decide (W * H ≤ 65536)
theorem sizeB_true {W H : Int} : sizeB W H = true ↔ SizeB W H := by
  unfold sizeB SizeB
  simp only [Bool.and_eq_true, decide_eq_true_eq]
  constructor
  · rintro ⟨⟨⟨⟨a, b⟩, c⟩, d⟩, e⟩; exact ⟨a, b, c, d, e⟩
  · rintro ⟨a, b, c, d, e⟩; exact ⟨⟨⟨⟨a, b⟩, c⟩, d⟩, e⟩
theorem sizeB_false {W H : Int} (h : ¬ SizeB W H) : sizeB W H = false := by
  cases g : sizeB W H
  · rfl
  · exact absurd (sizeB_true.1 g) h
def sideB (n : Int) : Bool := decide (1 ≤ n) && decide (n ≤ 1024)
theorem sizeB_eq (W H : Int) : sizeB W H = (sideB W && (sideB H && decide (W * H ≤ 65536))) := by
  unfold sizeB sideB
  cases decide (1 ≤ W) <;> cases decide (W ≤ 1024) <;> cases decide (1 ≤ H) <;> cases decide (H ≤ 1024) <;> rfl
theorem sideB_true {n : Int} : sideB n = true ↔ 1 ≤ n ∧ n ≤ 1024 := by
  unfold sideB; simp
theorem area_le {a b : Int} (ha : 1 ≤ a ∧ a ≤ 1024) (hb : 1 ≤ b ∧ b ≤ 1024) : 1 ≤ a * b ∧ a * b ≤ 1048576 := by
  have h1 : a * b ≤ 1024 * b := Int.mul_le_mul_of_nonneg_right ha.2 (by omega)
  have h2 : 1 * b ≤ a * b := Int.mul_le_mul_of_nonneg_right ha.1 (by omega)
  omega

theorem isSide_any (n : Int) (w : World) : Calls Try.prog 47 #[.int .i64 n] w fun e w' => e = .returned (.bool (sideB n)) ∧ w' = w := by
  by_cases h1 : 1 ≤ n
  · by_cases h2 : n ≤ 1024
    · have e : sideB n = true := sideB_true.2 ⟨h1, h2⟩
      rw [e]
      clear e
      go_enter Try.func47, Try.ntmps47
      go_wp2_with fail
      go_ret
      exact ⟨rfl, rfl⟩
    · have e : sideB n = false := by unfold sideB; simp [h2]
      rw [e]
      clear e
      go_enter Try.func47, Try.ntmps47
      go_wp2_with fail
      go_ret
      exact ⟨rfl, rfl⟩
  · have e : sideB n = false := by unfold sideB; simp [h1]
    rw [e]
    clear e
    go_enter Try.func47, Try.ntmps47
    go_wp2_with fail
    go_ret
    exact ⟨rfl, rfl⟩
theorem isSize_any (W H : Int) (w : World) : Calls Try.prog 32 #[.int .i64 W, .int .i64 H] w fun e w' => e = .returned (.bool (sizeB W H)) ∧ w' = w := by
  rw [sizeB_eq]
  cases hW : sideB W
  · have A : Calls Try.prog 47 #[.int .i64 W] w fun e w' => e = .returned (.bool false) ∧ w' = w := hW ▸ isSide_any W w
    go_enter Try.func32, Try.ntmps32
    go_wp2_with (go_at_call 47; refine A.mono ?_; rintro e w1 ⟨rfl, rfl⟩)
    go_ret
    exact ⟨rfl, rfl⟩
  · have A : Calls Try.prog 47 #[.int .i64 W] w fun e w' => e = .returned (.bool true) ∧ w' = w := hW ▸ isSide_any W w
    cases hH : sideB H
    · have B : Calls Try.prog 47 #[.int .i64 H] w fun e w' => e = .returned (.bool false) ∧ w' = w := hH ▸ isSide_any H w
      go_enter Try.func32, Try.ntmps32
      go_wp2_with fail
      refine A.mono ?_
      rintro e w1 ⟨rfl, rfl⟩
      go_wp2_with fail
      refine B.mono ?_
      rintro e w1 ⟨rfl, rfl⟩
      go_wp2_with fail
      go_ret
      exact ⟨rfl, rfl⟩
    · have B : Calls Try.prog 47 #[.int .i64 H] w fun e w' => e = .returned (.bool true) ∧ w' = w := hH ▸ isSide_any H w
      have h1 := sideB_true.1 hW
      have h2 := sideB_true.1 hH
      have h3 := area_le h1 h2
      clear hW hH
      by_cases h4 : W * H ≤ 65536
      · rw [decide_eq_true h4]
        generalize hA : W * H = A0 at h3 h4
        go_enter Try.func32, Try.ntmps32
        go_wp2_with fail
        refine A.mono ?_
        rintro e w1 ⟨rfl, rfl⟩
        go_wp2_with fail
        refine B.mono ?_
        rintro e w1 ⟨rfl, rfl⟩
        go_wp2_with fail
        go_ret
        exact ⟨rfl, rfl⟩
      · rw [decide_eq_false h4]
        generalize hA : W * H = A0 at h3 h4
        have h5 : decide (A0 ≤ 65536) = false := decide_eq_false h4
        go_enter Try.func32, Try.ntmps32
        go_wp2_with fail
        refine A.mono ?_
        rintro e w1 ⟨rfl, rfl⟩
        go_wp2_with fail
        refine B.mono ?_
        rintro e w1 ⟨rfl, rfl⟩
        go_wp2_with fail
        go_ret
        exact ⟨rfl, rfl⟩

/-- What is wrong with a plane. -/
def chk (W H : Int) (n : Nat) : Int := if sizeB W H = true then (if (n : Int) = W * H then 0 else 51) else 50
theorem chk_bad {W H : Int} {n : Nat} (h : sizeB W H = false) : chk W H n = 50 := by unfold chk; rw [h]; rfl
theorem chk_count {W H : Int} {n : Nat} (h : sizeB W H = true) (hn : (n : Int) ≠ W * H) : chk W H n = 51 := by unfold chk; rw [if_pos h, if_neg hn]
theorem chk_ok {W H : Int} {n : Nat} (h : sizeB W H = true) (hn : (n : Int) = W * H) : chk W H n = 0 := by unfold chk; rw [if_pos h, if_pos hn]
theorem chk_zero {W H : Int} {n : Nat} (h : chk W H n = 0) : ∃ a b : Nat, W = a ∧ H = b ∧ Size a b ∧ n = a * b := by
  unfold chk at h
  by_cases g : sizeB W H = true
  · rw [if_pos g] at h
    by_cases g2 : (n : Int) = W * H
    · obtain ⟨a, b, rfl, rfl, hs⟩ := (sizeB_true.1 g).nat
      refine ⟨a, b, rfl, rfl, hs, ?_⟩
      rw [← Int.natCast_mul] at g2
      omega
    · rw [if_neg g2] at h; exact absurd h (by decide)
  · rw [if_neg g] at h; exact absurd h (by decide)
theorem chk_size {a b : Nat} (h : Size a b) : chk a b (a * b) = 0 := chk_ok (sizeB_true.2 h.b) (by rw [Int.natCast_mul])
theorem chk_cases (W H : Int) (n : Nat) : chk W H n = 50 ∨ chk W H n = 51 ∨ chk W H n = 0 := by
  unfold chk; split
  · split <;> simp
  · simp
set_option maxHeartbeats 1000000 in
theorem check_any (W H : Int) (a : Option Addr) (n c : Nat) (hn : n ≤ 9223372036854775807) (w : World) :
    Calls Try.prog 16 #[.agg #[.int .i64 W, .int .i64 H, .slice a n c]] w fun e w' => e = .returned (.int .i64 (chk W H n)) ∧ Q w w' := by
  have q0 : ∀ c t, Q w (w.alloc (.cells c t)) := fun c t => (Q.refl w).cells c t
  have Q0 : Hid (∀ c t, Q w (w.alloc (.cells c t))) := q0
  clear q0
  cases hS : sizeB W H
  · have A : ∀ w : World, Calls Try.prog 32 #[.int .i64 W, .int .i64 H] w fun e w' => e = .returned (.bool false) ∧ w' = w := fun w => hS ▸ isSize_any W H w
    rw [chk_bad hS]
    clear hS
    go_enter Try.func16, Try.ntmps16
    go_wp2_with (go_at_call 32; refine (A _).mono ?_; rintro e w1 ⟨rfl, rfl⟩)
    go_ret
    exact ⟨rfl, Q0.out _ _⟩
  · have A : ∀ w : World, Calls Try.prog 32 #[.int .i64 W, .int .i64 H] w fun e w' => e = .returned (.bool true) ∧ w' = w := fun w => hS ▸ isSize_any W H w
    obtain ⟨h1, h2, h3, h4, h5⟩ := sizeB_true.1 hS
    have h6 := area_le ⟨h1, h2⟩ ⟨h3, h4⟩
    by_cases hc : (n : Int) = W * H
    · rw [chk_ok hS hc]
      have hw : IntKind.i64.wrap (W * H) = W * H := by rw [IntKind.wrap_i64]; omega
      have hb : ((n : Int) == W * H) = true := by rw [hc]; simp
      have hb2 : ((n : Int) != W * H) = false := by rw [hc]; simp
      clear hS hc h5 h6 h1 h2 h3 h4
      go_enter Try.func16, Try.ntmps16
      go_wp2_with (go_at_call 32; refine (A _).mono ?_; rintro e w1 ⟨rfl, rfl⟩)
      go_ret
      exact ⟨rfl, Q0.out _ _⟩
    · rw [chk_count hS hc]
      have hw : IntKind.i64.wrap (W * H) = W * H := by rw [IntKind.wrap_i64]; omega
      have hb : ((n : Int) == W * H) = false := by rw [beq_eq_false_iff_ne]; exact hc
      have hb2 : ((n : Int) != W * H) = true := by rw [bne_iff_ne]; exact hc
      clear hS hc h5 h6 h1 h2 h3 h4
      go_enter Try.func16, Try.ntmps16
      go_wp2_with (go_at_call 32; refine (A _).mono ?_; rintro e w1 ⟨rfl, rfl⟩)
      go_ret
      exact ⟨rfl, Q0.out _ _⟩

theorem tmod_mod (i n : Int) (hn : 0 < n) : (0 ≤ Int.tmod i n → Int.tmod i n = i % n) ∧ (Int.tmod i n < 0 → Int.tmod i n + n = i % n) ∧ -n < Int.tmod i n ∧ Int.tmod i n < n := by
  have e : n * Int.tdiv i n + Int.tmod i n = i := Int.mul_tdiv_add_tmod i n
  have l1 := Int.tmod_lt_of_pos i hn
  have l2 : -n < Int.tmod i n := Int.lt_tmod_of_pos i hn
  have e2 : i % n = Int.tmod i n % n := by
    conv => lhs; rw [← e]
    rw [Int.add_comm, Int.add_mul_emod_self_left]
  refine ⟨fun h => ?_, fun h => ?_, l2, l1⟩
  · rw [e2, Int.emod_eq_of_lt h l1]
  · rw [e2, ← Int.add_emod_right, Int.emod_eq_of_lt (by omega) (by omega)]
end Go.Proofs.Ytlelgifdnhnphab
/- What is wrong with a picture. -/
namespace Go.Proofs.Ytlelgifdnhnphab
open Go.RowKit
set_option linter.unusedVariables false
set_option linter.unusedSimpArgs false

def numB (n : Int) : Bool := decide (1 ≤ n) && decide (n ≤ 4)
def spcB (k n : Int) : Bool := k == 0 || (decide (0 < k) && decide (k ≤ 4) && (n == 3 || n == 4))
theorem isnumber_any (n : Int) (w : World) : Calls Try.prog 15 #[.int .i64 n] w fun e w' => e = .returned (.bool (numB n)) ∧ w' = w := by
  unfold numB
  by_cases h1 : 1 ≤ n
  · by_cases h2 : n ≤ 4
    · rw [decide_eq_true h1, decide_eq_true h2]
      go_enter Try.func15, Try.ntmps15
      go_wp2_with fail
      go_ret
      exact ⟨rfl, rfl⟩
    · rw [decide_eq_true h1, decide_eq_false h2]
      have g2 := decide_eq_false h2
      go_enter Try.func15, Try.ntmps15
      go_wp2_with fail
      go_ret
      exact ⟨rfl, rfl⟩
  · rw [decide_eq_false h1]
    have g1 := decide_eq_false h1
    go_enter Try.func15, Try.ntmps15
    go_wp2_with fail
    go_ret
    exact ⟨rfl, rfl⟩
set_option maxHeartbeats 1000000 in
theorem isspace8_any (k n : Int) (w : World) : Calls Try.prog 18 #[.int .i64 k, .int .i64 n] w fun e w' => e = .returned (.bool (spcB k n)) ∧ w' = w := by
  by_cases h0 : k = 0
  · subst h0
    go_enter Try.func18, Try.ntmps18
    go_wp2_with fail
    go_ret
    exact ⟨rfl, rfl⟩
  · have b0 : (k == 0) = false := by rw [beq_eq_false_iff_ne]; exact h0
    by_cases h1 : 0 < k
    · by_cases h2 : k ≤ 4
      · have e : spcB k n = (n == 3 || n == 4) := by unfold spcB; rw [b0, decide_eq_true h1, decide_eq_true h2]; simp
        rw [e]
        by_cases h3 : n = 3
        · subst h3
          go_enter Try.func18, Try.ntmps18
          go_wp2_with fail
          go_ret
          exact ⟨rfl, rfl⟩
        · have b3 : (n == 3) = false := by rw [beq_eq_false_iff_ne]; exact h3
          rw [b3]
          go_enter Try.func18, Try.ntmps18
          go_wp2_with fail
          go_ret
          exact ⟨by simp, rfl⟩
      · have e : spcB k n = false := by unfold spcB; rw [b0, decide_eq_false h2]; simp
        rw [e]
        have g2 := decide_eq_false h2
        go_enter Try.func18, Try.ntmps18
        go_wp2_with fail
        go_ret
        exact ⟨rfl, rfl⟩
    · have e : spcB k n = false := by unfold spcB; rw [b0, decide_eq_false h1]; simp
      rw [e]
      have g1 := decide_eq_false h1
      go_enter Try.func18, Try.ntmps18
      go_wp2_with fail
      go_ret
      exact ⟨rfl, rfl⟩
set_option maxHeartbeats 1000000 in
theorem onesize_any (a b c d : Int) (p q : Option Addr) (n m k l : Nat) (w : World) : Calls Try.prog 17 #[.agg #[.int .i64 a, .int .i64 b, .slice p n m], .agg #[.int .i64 c, .int .i64 d, .slice q k l]] w fun e w' => e = .returned (.bool (a == c && b == d)) ∧ Q w w' := by
  have q0 : Hid (∀ c t c' t', Q w ((w.alloc (.cells c t)).alloc (.cells c' t'))) := fun c t c' t' => ((Q.refl w).cells c t).cells c' t'
  by_cases h1 : a = c
  · subst h1
    go_enter Try.func17, Try.ntmps17
    go_wp2_with fail
    go_ret
    exact ⟨by simp, q0.out _ _ _ _⟩
  · have b1 : (a == c) = false := by rw [beq_eq_false_iff_ne]; exact h1
    rw [b1]
    go_enter Try.func17, Try.ntmps17
    go_wp2_with fail
    go_ret
    exact ⟨rfl, q0.out _ _ _ _⟩
/-- A plane that came in: its sides, where its list lies, its samples. -/
structure PD where
  W : Int
  H : Int
  ad : Option Addr
  cap : Nat
  S : List Nat
def PD.sv (x : PD) : Value := .slice x.ad x.S.length x.cap
def DIs (w : World) (g o : Nat) (D : List PD) : Prop := ∀ i x, D[i]? = some x → w.cell? ⟨g, o + i * 3, none⟩ = some (.int .i64 x.W) ∧ w.cell? ⟨g, o + i * 3 + 1, none⟩ = some (.int .i64 x.H) ∧ w.cell? ⟨g, o + i * 3 + 2, none⟩ = some (.slice x.ad x.S.length x.cap) ∧ USl w x.sv x.S
theorem DIs.next {w w' : World} {g o : Nat} {D : List PD} (h : DIs w g o D) (q : Q w w') : DIs w' g o D := fun i x hx => by
  obtain ⟨h1, h2, h3, h4⟩ := h i x hx
  exact ⟨q.cell h1, q.cell h2, q.cell h3, h4.next q⟩
def DSl (w : World) (v : Value) (D : List PD) : Prop := (∃ ad c, v = .slice ad 0 c ∧ D = []) ∨ ∃ g o c, v = .slice (some ⟨g, o, none⟩) D.length c ∧ D.length ≤ c ∧ DIs w g o D
theorem DSl.next {w w' : World} {v : Value} {D : List PD} (h : DSl w v D) (q : Q w w') : DSl w' v D := by
  rcases h with h | ⟨g, o, c, h1, h2, h3⟩
  · exact Or.inl h
  · exact Or.inr ⟨g, o, c, h1, h2, h3.next q⟩
theorem DSl.form {w : World} {v : Value} {D : List PD} (h : DSl w v D) : ∃ ad c, v = .slice ad D.length c := by
  rcases h with ⟨ad, c, rfl, rfl⟩ | ⟨g, o, c, rfl, _⟩
  · exact ⟨ad, c, rfl⟩
  · exact ⟨_, c, rfl⟩
theorem DSl.some {w : World} {v : Value} {D : List PD} (h : DSl w v D) (h1 : 1 ≤ D.length) : ∃ g o c, v = .slice (some ⟨g, o, none⟩) D.length c ∧ D.length ≤ c ∧ DIs w g o D := by
  rcases h with ⟨ad, c, rfl, rfl⟩ | h
  · simp at h1
  · exact h
def PD.chk (x : PD) : Int := Proofs.Ytlelgifdnhnphab.chk x.W x.H x.S.length
def firstE : List PD → Int
  | [] => 0
  | x :: t => if x.chk = 0 then firstE t else x.chk
def PD.like (x y : PD) : Bool := x.W == y.W && x.H == y.H
def pd0 : PD := ⟨0, 0, none, 0, []⟩
/-- What is wrong with a picture. -/
def chkP (sp : Int) (D : List PD) : Int := if numB D.length = true then (if firstE D = 0 then (if (D.all fun x => x.like (D.getD 0 pd0)) = true then (if spcB sp D.length = true then 0 else 81) else 80) else firstE D) else 80
theorem firstE_at {D : List PD} {i : Nat} {x : PD} (hx : D[i]? = some x) (h : ∀ j y, j < i → D[j]? = some y → y.chk = 0) (hc : x.chk ≠ 0) : firstE D = x.chk := by
  induction D generalizing i with
  | nil => simp at hx
  | cons y t ih =>
    cases i with
    | zero =>
      have : y = x := by simpa using hx
      subst this
      unfold firstE
      rw [if_neg hc]
    | succ i =>
      unfold firstE
      rw [if_pos (h 0 y (by omega) rfl)]
      exact ih (by simpa using hx) (fun j z hj hz => h (j + 1) z (by omega) (by simpa using hz))
theorem firstE_ok {D : List PD} (h : ∀ (j : Nat) (y : PD), D[j]? = some y → y.chk = 0) : firstE D = 0 := by
  induction D with
  | nil => rfl
  | cons y t ih =>
    unfold firstE
    rw [if_pos (h 0 y rfl)]
    exact ih (fun j z hz => h (j + 1) z (by simpa using hz))
theorem firstE_zero {D : List PD} (h : firstE D = 0) : ∀ x ∈ D, x.chk = 0 := by
  induction D with
  | nil => exact fun x hx => by cases hx
  | cons y t ih =>
    unfold firstE at h
    by_cases hy : y.chk = 0
    · rw [if_pos hy] at h
      intro x hx
      rcases List.mem_cons.1 hx with rfl | hx
      · exact hy
      · exact ih h x hx
    · rw [if_neg hy] at h; exact absurd h hy
end Go.Proofs.Ytlelgifdnhnphab
