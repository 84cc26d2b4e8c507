/- Where a curve comes to something first, and what proves it. -/
import Derived.Test.YtmfniimelibhfaaG7cdd4f11
import Derived.Laws.EntriesVeiled
import Derived.Deep.RegionHeld3
import Derived.Deep.DrawnRows
namespace Go.Proofs.Ytmfniimelibhfaa
open Go.RowKit
attribute [local go_sem ↓] Go.wp_at_zero Go.wp_at_succ

/-- The place, counted from the first one. -/
def lN (f : Nat → Nat) (first last y : Nat) : Nat := bis (fun i => comesB f (placeN first i) y) (keyN last - keyN first) 0 (keyN last - keyN first)
def lpE (f : Nat → Nat) (last y : Nat) : Int := if comesB f last y = true then 0 else 43
def lpX (f : Nat → Nat) (first last y : Nat) : Nat := if comesB f last y = true then placeN first (lN f first last y) else 0
def lpB (f : Nat → Nat) (first last y : Nat) : Nat := if comesB f last y = true then (if lN f first last y = 0 then 0 else placeN first (lN f first last y - 1)) else 0
def lpH (f : Nat → Nat) (first last y : Nat) : Bool := comesB f last y && decide (lN f first last y ≠ 0)
/-- What Least answers, as a struct. -/
def prV (x b : Nat) (h : Bool) : Value := .agg #[.int .u32 x, .int .u32 b, .bool h]
theorem place_0 {first : Nat} (h : first < 4294967296) : placeN first 0 = first := by unfold placeN; rw [Nat.add_zero, fkey_key h]
theorem lN_le (f : Nat → Nat) (first last y : Nat) : lN f first last y ≤ keyN last - keyN first := by
  have := bis_facts (fun i => comesB f (placeN first i) y) (keyN last - keyN first - 0) 0 (keyN last - keyN first) rfl (Nat.zero_le _)
  exact this.2.1

theorem set_other (w : World) {rb i : Nat} {x : Value} {a : Addr} (h : a.block ≠ rb) : (w.setCell ⟨rb, i, none⟩ x).cell? a = w.cell? a :=
  World.cell?_setCell_other _ _ _ _ (fun e => h (by rw [← e]))
theorem key_of_srung {a b : Nat} (ha : a < 4294967296) (hb : b < 4294967296) (h : srung32 a < srung32 b) : keyN a < keyN b := by
  unfold srung32 sgn32 rung32 at h
  unfold keyN
  by_cases g1 : a < 2147483648
  · rw [if_pos g1]
    rw [show (a / 2147483648 % 2 == 1) = false by rw [beq_eq_false_iff_ne]; omega] at h
    by_cases g2 : b < 2147483648
    · rw [if_pos g2]
      rw [show (b / 2147483648 % 2 == 1) = false by rw [beq_eq_false_iff_ne]; omega] at h
      simp at h; omega
    · rw [show (b / 2147483648 % 2 == 1) = true by rw [beq_iff_eq]; omega] at h
      simp at h; omega
  · rw [if_neg g1]
    rw [show (a / 2147483648 % 2 == 1) = true by rw [beq_iff_eq]; omega] at h
    by_cases g2 : b < 2147483648
    · rw [if_pos g2]; omega
    · rw [if_neg g2]
      rw [show (b / 2147483648 % 2 == 1) = true by rw [beq_iff_eq]; omega] at h
      simp at h; omega
theorem kx_mono {l : List (Nat × Nat)} (hl : COk l) : ∀ {i j : Nat}, i < j → j < l.length → srung32 (kx l i) < srung32 (kx l j) := by
  intro i j h
  induction j with
  | zero => omega
  | succ j ih =>
    intro hj
    have h1 := (hl.rise j hj).1
    rcases Nat.lt_or_ge i j with g | g
    · have := ih g (by omega); omega
    · rw [show i = j by omega]; exact h1
theorem ends_keys {l : List (Nat × Nat)} (hl : COk l) : keyN (kx l 0) < keyN (kx l (l.length - 1)) :=
  key_of_srung (hl.lt _).1 (hl.lt _).1 (kx_mono hl (by have := hl.two; omega) (by have := hl.two; omega))

set_option maxHeartbeats 4000000 in
theorem curveleast_any (b o : Nat) (l : List (Nat × Nat)) (hl : COk l) (y : Nat) (w : World) (hc : CIs w b o l) (F L : Nat) (hF : F = kx l 0) (hL : L = kx l (l.length - 1)) :
    Calls Try.prog 47 #[.iface 25 (.pointer (some ⟨b, o, none⟩)), .int .u32 y] w fun e w' => e = .returned (.tuple #[prV (lpX (atV l) F L y) (lpB (atV l) F L y) (lpH (atV l) F L y), .int .i64 (lpE (atV l) L y)]) ∧ Q w w' := by
  have hFl : F < 4294967296 := by rw [hF]; exact (hl.lt 0).1
  have hLl : L < 4294967296 := by rw [hL]; exact (hl.lt _).1
  have hkk : keyN F < keyN L := by rw [hF, hL]; exact ends_keys hl
  have hkL := keyN_lt hLl
  have HE : Hid (kx l 0 = F ∧ kx l (l.length - 1) = L) := ⟨hF.symm, hL.symm⟩
  have HC : Hid (CIs w b o l) := hc
  have HL : Hid (COk l) := hl
  clear hF hL hc hl
  have hm : ∀ w : World, (method 220 25 (.pointer (some ⟨b, o, none⟩)) "halide/curve.ends").run Try.prog w = .ok (89, .pointer (some ⟨b, o, none⟩)) w := fun _ => by kernel_rfl
  go_enter Try.func47, Try.ntmps47
  go_wp2_with fail
  refine (ends_any b o l HL.out _ (HC.out.next ((((Q.refl w).cells _ _).cells _ _).cells _ _))).mono ?_
  rintro e w1 ⟨rfl, q1⟩
  rw [HE.out.1, HE.out.2]
  have a1 : w1.cell? ⟨w.heap.size, 0, none⟩ = some (.iface 25 (.pointer (some ⟨b, o, none⟩))) := q1.cell (by simp [go_sem])
  have a2 : w1.cell? ⟨w.heap.size + 1, 0, none⟩ = some (.int .u32 y) := q1.cell (by simp [go_sem])
  have r0 : w1.cell? ⟨w.heap.size + 1 + 1, 0, none⟩ = some (.int .u32 0) := q1.cell (by simp [go_sem])
  have r1 : w1.cell? ⟨w.heap.size + 1 + 1, 1, none⟩ = some (.int .u32 0) := q1.cell (by simp [go_sem])
  have r2 : w1.cell? ⟨w.heap.size + 1 + 1, 2, none⟩ = some (.bool false) := q1.cell (by simp [go_sem])
  have z0 : ∀ i, w1.frozen? ⟨w.heap.size + 1 + 1, i, none⟩ = false := fun i => by rw [q1.2]; simp [go_sem]
  have hq : Q w w1 := ((((Q.refl w).cells _ _).cells _ _).cells _ _).trans q1
  have a1' := fun c t => cell_1 a1 c t
  have a2' := fun c t => cell_1 a2 c t
  have s1 : w.heap.size + 1 + 1 + 1 ≤ w1.heap.size := by have := q1.1.size; simpa using this
  have n1 : w1.heap.size ≠ w.heap.size + 1 + 1 := by omega
  clear q1
  go_wp2_with fail
  refine (comes_any b o l HL.out L y hLl _ (HC.out.next (hq.cells _ _))).mono ?_
  rintro e w2 ⟨rfl, q2⟩
  have a3 : w2.cell? ⟨w1.heap.size, 0, none⟩ = some (.int .u32 F) := q2.cell (by simp [go_sem])
  replace a1 := q2.cell (a1' _ _)
  replace a2 := q2.cell (a2' _ _)
  replace r0 := q2.cell (cell_1 r0 _ _)
  replace r1 := q2.cell (cell_1 r1 _ _)
  replace r2 := q2.cell (cell_1 r2 _ _)
  replace z0 : ∀ i, w2.frozen? ⟨w.heap.size + 1 + 1, i, none⟩ = false := fun i => by rw [q2.2, ((Q.refl w1).cells _ _).2]; exact z0 i
  have z1 := z0 0
  have z2 := z0 1
  have z3 := z0 2
  have s2 : w1.heap.size + 1 ≤ w2.heap.size := by have := q2.1.size; simpa using this
  have n2 : w2.heap.size ≠ w.heap.size + 1 + 1 := by omega
  replace hq := (hq.cells _ _).trans q2
  clear q2 a1' a2' z0 s1 s2
  cases hcm : comesB (atV l) L y
  · have HM : Hid (comesB (atV l) L y = false) := hcm
    clear hcm
    go_wp2_with fail
    refine bodyPost_ret (v := .tuple #[prV (lpX (atV l) F L y) (lpB (atV l) F L y) (lpH (atV l) F L y), .int .i64 (lpE (atV l) L y)]) ?_ rfl ⟨rfl, ?_⟩
    · unfold lpX lpB lpH lpE prV
      rw [HM.out]
      simp [results, Try.results47, go_sem, r0, r1, r2]
    · exact ((hq.set (by simp; omega) _).set (by simp; omega) _).set (by simp; omega) _
  · have HM : Hid (comesB (atV l) L y = true) := hcm
    clear hcm
    have a3' := fun c t => cell_1 a3 c t
    go_wp2_with fail
    refine (apart_any F L hFl hLl _).mono ?_
    rintro e w3' ⟨rfl, rfl⟩
    generalize hW : w2.alloc _ = w3
    have q3 : Q w2 w3 := by rw [← hW]; exact (Q.refl w2).cells _ _
    have a4 : w3.cell? ⟨w2.heap.size, 0, none⟩ = some (.func (.func 61) #[] #[.pointer (some ⟨w1.heap.size, 0, none⟩)]) := by rw [← hW]; simp [go_sem]
    clear hW
    replace a1 := q3.cell a1
    replace a2 := q3.cell a2
    replace a3 := q3.cell a3
    replace r0 := q3.cell r0
    replace r1 := q3.cell r1
    replace r2 := q3.cell r2
    have y1 : w3.frozen? ⟨w.heap.size + 1 + 1, 0, none⟩ = false := by rw [q3.2]; exact z1
    have y2 : w3.frozen? ⟨w.heap.size + 1 + 1, 1, none⟩ = false := by rw [q3.2]; exact z2
    have y3 : w3.frozen? ⟨w.heap.size + 1 + 1, 2, none⟩ = false := by rw [q3.2]; exact z3
    replace hq := hq.trans q3
    clear q3 z1 z2 z3 a3'
    have hA : ((keyN L : Int) - (keyN F : Int)) = ((keyN L - keyN F : Nat) : Int) := by omega
    rw [hA]
    clear hA
    go_wp2_with fail
    refine (search_any 65 #[.pointer (some ⟨w.heap.size, 0, none⟩), .pointer (some ⟨w2.heap.size, 0, none⟩), .pointer (some ⟨w.heap.size + 1, 0, none⟩)] (keyN L - keyN F) (fun i => comesB (atV l) (placeN F i) y) _ leastc_enters (by omega) (fun w' i q hi => ?_)).mono ?_
    · exact leastc_any b o w.heap.size w2.heap.size (w.heap.size + 1) w1.heap.size F i y l HL.out hFl (by omega) w' (HC.out.next (hq.trans q)) (q.cell a1) (q.cell a4) (q.cell a2) (q.cell a3)
    rintro e w4 ⟨rfl, q4⟩
    obtain ⟨R, hR⟩ : ∃ R, R = lN (atV l) F L y := ⟨_, rfl⟩
    have hRle := lN_le (atV l) F L y
    rw [← hR] at hRle
    rw [show bis (fun i => comesB (atV l) (placeN F i) y) (keyN L - keyN F) 0 (keyN L - keyN F) = R from hR.symm]
    have HR : Hid (lN (atV l) F L y = R) := hR.symm
    clear hR
    replace a3 := q4.cell a3
    replace a4 := q4.cell a4
    replace r0 := q4.cell r0
    replace r1 := q4.cell r1
    replace r2 := q4.cell r2
    replace y1 : w4.frozen? ⟨w.heap.size + 1 + 1, 0, none⟩ = false := by rw [q4.2]; exact y1
    replace y2 : w4.frozen? ⟨w.heap.size + 1 + 1, 1, none⟩ = false := by rw [q4.2]; exact y2
    replace y3 : w4.frozen? ⟨w.heap.size + 1 + 1, 2, none⟩ = false := by rw [q4.2]; exact y3
    replace hq := hq.trans q4
    clear q4 a1 a2
    by_cases h0 : R = 0
    · subst h0
      go_wp2_with fail
      refine bodyPost_ret (v := .tuple #[prV (lpX (atV l) F L y) (lpB (atV l) F L y) (lpH (atV l) F L y), .int .i64 (lpE (atV l) L y)]) ?_ rfl ⟨rfl, ?_⟩
      · unfold lpX lpB lpH lpE prV
        rw [HM.out, HR.out, place_0 hFl]
        simp [results, Try.results47, go_sem, r0, r1, r2]
      · exact ((hq.set (by simp; omega) _).set (by simp; omega) _).set (by simp; omega) _
    · have hb0 : ((R : Int) == 0) = false := by simp; omega
      have P1 : Hid (∀ w', w'.cell? ⟨w1.heap.size, 0, none⟩ = some (.int .u32 F) → Calls Try.prog 61 #[.int .i64 (R : Int), .pointer (some ⟨w1.heap.size, 0, none⟩)] w' fun e w'' => e = .returned (.int .u32 (placeN F R : Nat)) ∧ w'' = w') := fun w' h => place_any w1.heap.size F R hFl (by omega) w' h
      obtain ⟨S, hS⟩ : ∃ S : Nat, S = R - 1 := ⟨_, rfl⟩
      have hS2 : keyN F + S < 4294967296 := by omega
      have P2 : Hid (∀ w', w'.cell? ⟨w1.heap.size, 0, none⟩ = some (.int .u32 F) → Calls Try.prog 61 #[.int .i64 (S : Int), .pointer (some ⟨w1.heap.size, 0, none⟩)] w' fun e w'' => e = .returned (.int .u32 (placeN F S : Nat)) ∧ w'' = w') := fun w' h => place_any w1.heap.size F S hFl hS2 w' h
      have H0 : Hid (R ≠ 0) := h0
      have i1 : (1 : Int) ≤ (R : Int) := by omega
      have i2 : (R : Int) ≤ 4294967296 := by omega
      have i3 : IntKind.i64.wrap ((R : Int) - 1) = (S : Int) := by rw [IntKind.wrap_i64]; omega
      have HS : Hid (S = R - 1) := hS
      clear hS
      clear h0
      go_wp2_with fail
      go_region_held3 (fun w' => w'.cell? ⟨w2.heap.size, 0, none⟩ = some (.func (.func 61) #[] #[.pointer (some ⟨w1.heap.size, 0, none⟩)]) ∧ w'.cell? ⟨w1.heap.size, 0, none⟩ = some (.int .u32 F)) (first | (refine ⟨?_, ?_⟩ <;> (show (World.setCell (World.setCell (World.setCell _ _ _) _ _) _ _).cell? _ = _; rw [set_other _ (by first | exact n1 | exact n2), set_other _ (by first | exact n1 | exact n2), set_other _ (by first | exact n1 | exact n2)]; first | exact a3 | exact a4)) | go_keep)
        (first | (go_at_call_of 61 S; refine (P2.out _ ?_).mono ?_; assumption; rintro e w' ⟨rfl, rfl⟩) | (go_at_call_of 61 R; refine (P1.out _ ?_).mono ?_; assumption; rintro e w' ⟨rfl, rfl⟩))
      all_goals
        go_wp2_with fail
        refine bodyPost_ret (v := .tuple #[prV (lpX (atV l) F L y) (lpB (atV l) F L y) (lpH (atV l) F L y), .int .i64 (lpE (atV l) L y)]) ?_ rfl ⟨rfl, ?_⟩
        · unfold lpX lpB lpH lpE prV
          rw [HM.out, HR.out, if_neg H0.out, decide_eq_true H0.out, ← HS.out]
          simp [results, Try.results47, go_sem, r0, r1, r2]
        · exact (((hq.set (by simp; omega) _).set (by simp; omega) _).set (by simp; omega) _).drew
end Go.Proofs.Ytmfniimelibhfaa
/- The document's curves: what its small functions return. -/
namespace Go.Proofs.Ytmfniimelibhfaa
open Go.RowKit

theorem and_31 (s : Int) (h0 : 0 ≤ s) (h1 : s ≤ 4294967295) : bits .and .u32 s 2147483647 = s % 2147483648 := by go_bits2
set_option maxHeartbeats 400000 in
theorem rnan_any (a : Nat) (ha : a < 4294967296) (w : World) : Calls Try.prog 43 #[.int .u32 a] w fun e w' => e = .returned (.bool (nanN a)) ∧ w' = w := by
  have e1 := and_31 a (by omega) (by omega)
  go_enter Try.func43, Try.ntmps43
  go_wp2
  go_ret
  refine ⟨ret_bool ?_, rfl⟩
  unfold nanN
  rw [decide_eq_decide]
  omega
set_option maxHeartbeats 400000 in
theorem rfinite_any (a : Nat) (ha : a < 4294967296) (w : World) : Calls Try.prog 50 #[.int .u32 a] w fun e w' => e = .returned (.bool (finN a)) ∧ w' = w := by
  have e1 := exp_bits (s := (a : Int)) (by omega) (by omega)
  have e2 : (expV (a : Int) != 255) = finN a := by
    unfold expV finN rung32
    by_cases h : (a : Int) / 8388608 % 256 = 255
    · rw [h, decide_eq_false (by omega)]; rfl
    · rw [bne_iff_ne.2 h, decide_eq_true (by omega)]
  go_enter Try.func50, Try.ntmps50
  go_wp2
  go_ret
  exact ⟨rfl, rfl⟩
set_option maxHeartbeats 400000 in
theorem rkey_any (s : Nat) (hs : s < 4294967296) (w : World) : Calls Try.prog 34 #[.int .u32 s] w fun e w' => e = .returned (.int .i64 (keyN s : Nat)) ∧ w' = w := by
  by_cases h : s < 2147483648
  · have h' : (s : Int) < 2147483648 := by omega
    go_enter Try.func34, Try.ntmps34
    go_wp2
    go_ret
    exact ⟨ret_int (by unfold keyN; rw [if_pos h]; omega), rfl⟩
  · have h' : ¬ (s : Int) < 2147483648 := by omega
    go_enter Try.func34, Try.ntmps34
    go_wp2
    go_ret
    exact ⟨ret_int (by unfold keyN; rw [if_neg h]; omega), rfl⟩
/-- The key, both noughts at one. -/
def plK (s : Nat) : Nat := if s = 2147483648 then 2147483648 else keyN s
set_option maxHeartbeats 400000 in
theorem rplace_any (s : Nat) (hs : s < 4294967296) (w : World) : Calls Try.prog 49 #[.int .u32 s] w fun e w' => e = .returned (.int .i64 (plK s : Nat)) ∧ w' = w := by
  by_cases h : s = 2147483648
  · subst h
    have K : Calls Try.prog 34 #[.int .u32 0] w fun e w' => e = .returned (.int .i64 2147483648) ∧ w' = w := rkey_any 0 (by decide) w
    go_enter Try.func49, Try.ntmps49
    go_wp2_with fail
    refine Calls.mono K ?_
    rintro e w1 ⟨rfl, rfl⟩
    go_wp2_with fail
    go_ret
    exact ⟨rfl, rfl⟩
  · have h' : ((s : Int) == 2147483648) = false := by simp; omega
    go_enter Try.func49, Try.ntmps49
    go_wp2_with fail
    refine (rkey_any s hs _).mono ?_
    rintro e w1 ⟨rfl, rfl⟩
    go_wp2_with fail
    go_ret
    exact ⟨ret_int (by unfold plK; rw [if_neg h]), rfl⟩
theorem plK_lt {a b : Nat} (ha : a < 4294967296) (hb : b < 4294967296) : plK a < plK b ↔ srung32 a < srung32 b := by
  have e : ∀ s, s < 4294967296 → (plK s : Int) = if srung32 s < 0 then 2147483647 + srung32 s else 2147483648 + srung32 s := by
    intro s hs
    unfold plK keyN srung32 sgn32 rung32
    by_cases g : s < 2147483648
    · rw [show (s / 2147483648 % 2 == 1) = false by rw [beq_eq_false_iff_ne]; omega, if_neg (by omega), if_pos g]
      simp; split <;> omega
    · rw [show (s / 2147483648 % 2 == 1) = true by rw [beq_iff_eq]; omega]
      by_cases z : s = 2147483648
      · subst z; rfl
      · rw [if_neg z, if_neg g]
        simp; split <;> omega
  have e1 := e a ha
  have e2 := e b hb
  split at e1 <;> split at e2 <;> omega
theorem plK_eq {a b : Nat} (ha : a < 4294967296) (hb : b < 4294967296) : plK a = plK b ↔ srung32 a = srung32 b := by
  have h1 := plK_lt ha hb
  have h2 := plK_lt hb ha
  omega
theorem lessB_nan1 {a b : Nat} (h : nanN a = true) : lessB a b = false := by unfold lessB; rw [order_nan1 _ (read32_nan h)]; rfl
theorem lessB_nan2 {a b : Nat} (h : nanN b = true) : lessB a b = false := by unfold lessB; rw [order_nan2 _ (read32_nan h)]; rfl
theorem equalB_nan1 {a b : Nat} (h : nanN a = true) : equalB a b = false := by unfold equalB; rw [order_nan1 _ (read32_nan h)]; rfl
theorem equalB_nan2 {a b : Nat} (h : nanN b = true) : equalB a b = false := by unfold equalB; rw [order_nan2 _ (read32_nan h)]; rfl
set_option maxHeartbeats 1000000 in
theorem rbelow_any (a b : Nat) (ha : a < 4294967296) (hb : b < 4294967296) (w : World) : Calls Try.prog 44 #[.int .u32 a, .int .u32 b] w fun e w' => e = .returned (.bool (lessB a b)) ∧ w' = w := by
  cases h1 : nanN a
  · cases h2 : nanN b
    · have e1 : Hid (decide (plK a < plK b) = lessB a b) := by
        show decide (plK a < plK b) = lessB a b
        rw [lessB_num h1 h2, decide_eq_decide]; exact plK_lt ha hb
      go_enter Try.func44, Try.ntmps44
      go_wp2_with fail
      refine (rnan_any a ha _).mono ?_
      rintro e w1 ⟨rfl, rfl⟩
      go_wp2_with fail
      refine (rnan_any b hb _).mono ?_
      rintro e w1 ⟨rfl, rfl⟩
      go_wp2_with fail
      refine (rplace_any a ha _).mono ?_
      rintro e w1 ⟨rfl, rfl⟩
      go_wp2_with fail
      refine (rplace_any b hb _).mono ?_
      rintro e w1 ⟨rfl, rfl⟩
      go_wp2_with fail
      go_ret
      exact ⟨ret_bool e1.out, rfl⟩
    · rw [lessB_nan2 h2]
      go_enter Try.func44, Try.ntmps44
      go_wp2_with fail
      refine (rnan_any a ha _).mono ?_
      rintro e w1 ⟨rfl, rfl⟩
      go_wp2_with fail
      refine (rnan_any b hb _).mono ?_
      rintro e w1 ⟨rfl, rfl⟩
      go_wp2_with fail
      go_ret
      exact ⟨rfl, rfl⟩
  · rw [lessB_nan1 h1]
    go_enter Try.func44, Try.ntmps44
    go_wp2_with fail
    refine (rnan_any a ha _).mono ?_
    rintro e w1 ⟨rfl, rfl⟩
    go_wp2_with fail
    go_ret
    exact ⟨rfl, rfl⟩
set_option maxHeartbeats 1000000 in
theorem rsame_any (a b : Nat) (ha : a < 4294967296) (hb : b < 4294967296) (w : World) : Calls Try.prog 20 #[.int .u32 a, .int .u32 b] w fun e w' => e = .returned (.bool (equalB a b)) ∧ w' = w := by
  cases h1 : nanN a
  · cases h2 : nanN b
    · have e1 : Hid (((plK a : Int) == (plK b : Int)) = equalB a b) := by
        show ((plK a : Int) == (plK b : Int)) = equalB a b
        rw [equalB_num h1 h2, Bool.eq_iff_iff, beq_iff_eq, decide_eq_true_eq, ← plK_eq ha hb]; omega
      go_enter Try.func20, Try.ntmps20
      go_wp2_with fail
      refine (rnan_any a ha _).mono ?_
      rintro e w1 ⟨rfl, rfl⟩
      go_wp2_with fail
      refine (rnan_any b hb _).mono ?_
      rintro e w1 ⟨rfl, rfl⟩
      go_wp2_with fail
      refine (rplace_any a ha _).mono ?_
      rintro e w1 ⟨rfl, rfl⟩
      go_wp2_with fail
      refine (rplace_any b hb _).mono ?_
      rintro e w1 ⟨rfl, rfl⟩
      go_wp2_with fail
      go_ret
      exact ⟨ret_bool e1.out, rfl⟩
    · rw [equalB_nan2 h2]
      go_enter Try.func20, Try.ntmps20
      go_wp2_with fail
      refine (rnan_any a ha _).mono ?_
      rintro e w1 ⟨rfl, rfl⟩
      go_wp2_with fail
      refine (rnan_any b hb _).mono ?_
      rintro e w1 ⟨rfl, rfl⟩
      go_wp2_with fail
      go_ret
      exact ⟨rfl, rfl⟩
  · rw [equalB_nan1 h1]
    go_enter Try.func20, Try.ntmps20
    go_wp2_with fail
    refine (rnan_any a ha _).mono ?_
    rintro e w1 ⟨rfl, rfl⟩
    go_wp2_with fail
    go_ret
    exact ⟨rfl, rfl⟩
set_option maxHeartbeats 400000 in
theorem rvalue_any (a : Nat) (h : nanN a = false) (w : World) : Calls Try.prog 58 #[.int .u32 (a : Int)] w fun e w' => e = .returned (.float .f64 (wideN a)) ∧ w' = w := by
  have l1 := f32from
  have l2 := fun w => run_convert_float_float (P := Try.prog) w 65 85 .f32 .f64 a _ (by kernel_rfl) Try.underlying85 (wide_conv h)
  clear h
  go_enter Try.func58, Try.ntmps58
  go_wp2_with fail
  go_ret
  exact ⟨rfl, rfl⟩
end Go.Proofs.Ytmfniimelibhfaa
/- The document's curves: between two knots; whether knots may be; At. -/
namespace Go.Proofs.Ytmfniimelibhfaa
open Go.RowKit
set_option linter.unusedVariables false

set_option maxHeartbeats 2000000 in
theorem rbetween_slope (px py qx qy x A H D S T V : Nat) (ha : px < 4294967296) (hb : py < 4294967296) (hc : qx < 4294967296) (hd : qy < 4294967296) (hx : x < 4294967296) (he : equalB py qy = false)
    (na : nanN px = false) (nb : nanN py = false) (nc : nanN qx = false) (nd : nanN qy = false) (nx : nanN x = false)
    (hA : floatBits .sub .f64 (wideN x) (wideN px) = some A) (hH : floatBits .sub .f64 (wideN qy) (wideN py) = some H) (hD : floatBits .sub .f64 (wideN qx) (wideN px) = some D)
    (hS : floatBits .quo .f64 H D = some S) (hT : floatBits .mul .f64 A S = some T) (hV : floatBits .add .f64 (wideN py) T = some V) (hr : rung64 V < 5183643170835005440) (w : World) :
    Calls Try.prog 45 #[.agg #[.int .u32 px, .int .u32 py], .agg #[.int .u32 qx, .int .u32 qy], .int .u32 x] w fun e w' => e = .returned (.int .u32 (clipV py qy (toldD (some (Ieee.double.read V))) : Nat)) ∧ Q w w' := by
  have lA := fun w => run_float_arith (P := Try.prog) w .sub 85 .f64 _ _ _ hA
  have lH := fun w => run_float_arith (P := Try.prog) w .sub 85 .f64 _ _ _ hH
  have lD := fun w => run_float_arith (P := Try.prog) w .sub 85 .f64 _ _ _ hD
  have lS := fun w => run_float_arith (P := Try.prog) w .quo 85 .f64 _ _ _ hS
  have lT := fun w => run_float_arith (P := Try.prog) w .mul 85 .f64 _ _ _ hT
  have lV := fun w => run_float_arith (P := Try.prog) w .add 85 .f64 _ _ _ hV
  have lN := fun w => run_convert_float_float (P := Try.prog) w 85 65 .f64 .f32 V _ (by kernel_rfl) Try.underlying65 (nar_conv hr)
  have l0 := same64
  have l1 := f32bits
  have hn : (Ieee.double.read V).isNaN = false := by rw [read_fin64 (by omega)]; rfl
  rw [toldD_some hn]
  obtain ⟨Y, hY⟩ : ∃ Y, Y = Ieee.single.write (Ieee.double.read V) := ⟨_, rfl⟩
  have hYl : Y < 4294967296 := by rw [hY]; exact write32_lt _
  rw [← hY] at lN ⊢
  clear hA hH hD hS hT hV hY hn hr
  go_enter Try.func45, Try.ntmps45
  go_wp2_with fail
  refine (rsame_any py qy hb hd _).mono ?_
  rintro e w1 ⟨rfl, rfl⟩
  go_wp2_with fail
  generalize hW : ((w.alloc _).alloc _) = W
  have hQ : Q w W := by rw [← hW]; exact ((Q.refl w).cells _ _).cells _ _
  have c0 : W.cell? ⟨w.heap.size, 0, none⟩ = some (.int .u32 px) := by rw [← hW]; simp [go_sem]
  have c1 : W.cell? ⟨w.heap.size, 1, none⟩ = some (.int .u32 py) := by rw [← hW]; simp [go_sem]
  have c2 : W.cell? ⟨w.heap.size + 1, 0, none⟩ = some (.int .u32 qx) := by rw [← hW]; simp [go_sem]
  have c3 : W.cell? ⟨w.heap.size + 1, 1, none⟩ = some (.int .u32 qy) := by rw [← hW]; simp [go_sem]
  clear hW
  have n0 := qw_some W
  have d0 := qw_cell c0
  refine wp_region_quiet_Q (by kernel_rfl) (by kernel_rfl) ?_
  repeat (quiet_step (first | (go_at_call 58; exact calls_qs (rvalue_any x nx _)) | (go_at_call 58; exact calls_qs (rvalue_any px na _))))
  refine wpQuiet_nil ?_
  intro W2 hw'
  have hq2 := qw_out hw'
  clear hw'
  replace c0 := hq2.cell c0
  replace c1 := hq2.cell c1
  replace c2 := hq2.cell c2
  replace c3 := hq2.cell c3
  replace hQ := hQ.trans hq2
  clear hq2 d0 n0
  go_wp2_with fail
  have n0 := qw_some W2
  have d0 := qw_cell c0
  have d1 := qw_cell c1
  have d2 := qw_cell c2
  have d3 := qw_cell c3
  refine wp_region_quiet_Q (by kernel_rfl) (by kernel_rfl) ?_
  repeat (quiet_step (first | (go_at_call 58; exact calls_qs (rvalue_any qy nd _)) | (go_at_call 58; exact calls_qs (rvalue_any py nb _)) | (go_at_call 58; exact calls_qs (rvalue_any qx nc _)) | (go_at_call 58; exact calls_qs (rvalue_any px na _))))
  refine wpQuiet_nil ?_
  intro W3 hw'
  have hq2 := qw_out hw'
  clear hw'
  replace c1 := hq2.cell c1
  replace c3 := hq2.cell c3
  replace hQ := hQ.trans hq2
  clear hq2 d0 d1 d2 d3 n0 c0 c2
  go_wp2_with fail
  refine (rvalue_any py nb _).mono ?_
  rintro e w1 ⟨rfl, rfl⟩
  go_wp2_with fail
  refine (rbelow_any Y py hYl hb _).mono ?_
  rintro e w3 ⟨rfl, rfl⟩
  cases h1 : lessB Y py
  · go_wp2_with fail
    refine (rbelow_any qy Y hd hYl _).mono ?_
    rintro e w4 ⟨rfl, rfl⟩
    cases h2 : lessB qy Y
    · go_wp2_with fail
      go_ret
      exact ⟨ret_int (by rw [clip_3 h1 h2]), hQ⟩
    · go_wp2_with fail
      go_ret
      exact ⟨ret_int (by rw [clip_2 h1 h2]), hQ⟩
  · go_wp2_with fail
    go_ret
    exact ⟨ret_int (by rw [clip_1 h1]), hQ⟩
set_option maxHeartbeats 400000 in
theorem rbetween_flat (px py qx qy x : Nat) (hb : py < 4294967296) (hd : qy < 4294967296) (he : equalB py qy = true) (w : World) :
    Calls Try.prog 45 #[.agg #[.int .u32 px, .int .u32 py], .agg #[.int .u32 qx, .int .u32 qy], .int .u32 x] w fun e w' => e = .returned (.int .u32 py) ∧ Q w w' := by
  go_enter Try.func45, Try.ntmps45
  go_wp2_with fail
  refine (rsame_any py qy hb hd _).mono ?_
  rintro e w1 ⟨rfl, rfl⟩
  go_wp2_with fail
  go_ret
  exact ⟨rfl, ((Q.refl w).cells _ _).cells _ _⟩
theorem rbetween_any {px py qx qy x : Nat} (ha : px < 4294967296) (hb : py < 4294967296) (hc : qx < 4294967296) (hd : qy < 4294967296) (hx : x < 4294967296)
    (fa : rung32 px < 2139095040) (fb : rung32 py < 2139095040) (fc : rung32 qx < 2139095040) (fd : rung32 qy < 2139095040) (fx : rung32 x < 2139095040)
    (h1 : srung32 px < srung32 x) (h2 : srung32 x < srung32 qx) (h3 : srung32 py ≤ srung32 qy) (w : World) :
    Calls Try.prog 45 #[.agg #[.int .u32 px, .int .u32 py], .agg #[.int .u32 qx, .int .u32 qy], .int .u32 x] w fun e w' => e = .returned (.int .u32 (pieceV px py qx qy x : Nat)) ∧ Q w w' := by
  have he := equalB_num (fin_nan fb) (fin_nan fd)
  unfold pieceV
  by_cases g : srung32 py = srung32 qy
  · rw [decide_eq_true g] at he
    rw [if_pos he]
    exact rbetween_flat px py qx qy x hb hd he w
  · rw [decide_eq_false g] at he
    rw [if_neg (by rw [he]; decide)]
    obtain ⟨A, H, D, S, T, V, M, N, e1, e2, e3, e4, e5, e6, hr, _⟩ := piece fa fb fc fd fx ((sampleZ_lt_iff _ _).2 h1) ((sampleZ_lt_iff _ _).2 h2) ((sampleZ_lt_iff _ _).2 (by omega)) rfl
    rw [pieceB_eq e1 e2 e3 e4 e5 e6]
    exact rbetween_slope px py qx qy x A H D S T V ha hb hc hd hx he (fin_nan fa) (fin_nan fb) (fin_nan fc) (fin_nan fd) (fin_nan fx) e1 e2 e3 e4 e5 e6 hr w

set_option maxHeartbeats 1000000 in
theorem rcheck_many (v : Value) (n cap : Nat) (a : Option Addr) (hv : v = .slice a n cap) (h : n < 2 ∨ 64 < n) (hn : n ≤ 4611686018427387904) (w : World) :
    Calls Try.prog 22 #[v] w fun e w' => e = .returned (.int .i64 40) ∧ w' = w := by
  subst hv
  rcases h with h | h
  · have h1 : (n : Int) < 2 := by omega
    go_enter Try.func22, Try.ntmps22
    go_wp2_with fail
    go_ret
    exact ⟨rfl, rfl⟩
  · have h1 : ¬ (n : Int) < 2 := by omega
    have h2 : (64 : Int) < (n : Int) := by omega
    have h3 : decide ((n : Int) < 2) = false := decide_eq_false h1
    go_enter Try.func22, Try.ntmps22
    go_wp2_with fail
    go_ret
    exact ⟨rfl, rfl⟩

end Go.Proofs.Ytmfniimelibhfaa
