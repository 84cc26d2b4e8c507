/- Where a curve comes to something first, and what proves it. -/
import Derived.Test.YtfolecnjaaakeaaCurvL
import Derived.Laws.EntriesVeiled
import Derived.Deep.RegionHeld3
import Derived.Deep.DrawnRows
namespace Go.Proofs.Ytfolecnjaaakeaa
open Go.RowKit
attribute [local go_sem ↓] Go.wp_at_zero Go.wp_at_succ

/-- The place, counted from the first one. -/
def lN (f : Nat → Nat) (first last y : Nat) : Nat := bis (fun i => comesB f (placeN first i) y) (keyN last - keyN first) 0 (keyN last - keyN first)
def lpE (f : Nat → Nat) (last y : Nat) : Int := if comesB f last y = true then 0 else 43
def lpX (f : Nat → Nat) (first last y : Nat) : Nat := if comesB f last y = true then placeN first (lN f first last y) else 0
def lpB (f : Nat → Nat) (first last y : Nat) : Nat := if comesB f last y = true then (if lN f first last y = 0 then 0 else placeN first (lN f first last y - 1)) else 0
def lpH (f : Nat → Nat) (first last y : Nat) : Bool := comesB f last y && decide (lN f first last y ≠ 0)
/-- What Least answers, as a struct. -/
def prV (x b : Nat) (h : Bool) : Value := .agg #[.int .u32 x, .int .u32 b, .bool h]
theorem place_0 {first : Nat} (h : first < 4294967296) : placeN first 0 = first := by unfold placeN; rw [Nat.add_zero, fkey_key h]
theorem lN_le (f : Nat → Nat) (first last y : Nat) : lN f first last y ≤ keyN last - keyN first := by
  have := bis_facts (fun i => comesB f (placeN first i) y) (keyN last - keyN first - 0) 0 (keyN last - keyN first) rfl (Nat.zero_le _)
  exact this.2.1

theorem set_other (w : World) {rb i : Nat} {x : Value} {a : Addr} (h : a.block ≠ rb) : (w.setCell ⟨rb, i, none⟩ x).cell? a = w.cell? a :=
  World.cell?_setCell_other _ _ _ _ (fun e => h (by rw [← e]))
theorem key_of_srung {a b : Nat} (ha : a < 4294967296) (hb : b < 4294967296) (h : srung32 a < srung32 b) : keyN a < keyN b := by
  unfold srung32 sgn32 rung32 at h
  unfold keyN
  by_cases g1 : a < 2147483648
  · rw [if_pos g1]
    rw [show (a / 2147483648 % 2 == 1) = false by rw [beq_eq_false_iff_ne]; omega] at h
    by_cases g2 : b < 2147483648
    · rw [if_pos g2]
      rw [show (b / 2147483648 % 2 == 1) = false by rw [beq_eq_false_iff_ne]; omega] at h
      simp at h; omega
    · rw [show (b / 2147483648 % 2 == 1) = true by rw [beq_iff_eq]; omega] at h
      simp at h; omega
  · rw [if_neg g1]
    rw [show (a / 2147483648 % 2 == 1) = true by rw [beq_iff_eq]; omega] at h
    by_cases g2 : b < 2147483648
    · rw [if_pos g2]; omega
    · rw [if_neg g2]
      rw [show (b / 2147483648 % 2 == 1) = true by rw [beq_iff_eq]; omega] at h
      simp at h; omega
theorem kx_mono {l : List (Nat × Nat)} (hl : COk l) : ∀ {i j : Nat}, i < j → j < l.length → srung32 (kx l i) < srung32 (kx l j) := by
  intro i j h
  induction j with
  | zero => omega
  | succ j ih =>
    intro hj
    have h1 := (hl.rise j hj).1
    rcases Nat.lt_or_ge i j with g | g
    · have := ih g (by omega); omega
    · rw [show i = j by omega]; exact h1
theorem ends_keys {l : List (Nat × Nat)} (hl : COk l) : keyN (kx l 0) < keyN (kx l (l.length - 1)) :=
  key_of_srung (hl.lt _).1 (hl.lt _).1 (kx_mono hl (by have := hl.two; omega) (by have := hl.two; omega))

set_option maxHeartbeats 4000000 in
theorem curveleast_any (b o : Nat) (l : List (Nat × Nat)) (hl : COk l) (y : Nat) (w : World) (hc : CIs w b o l) (F L : Nat) (hF : F = kx l 0) (hL : L = kx l (l.length - 1)) :
    Calls Try.prog 47 #[.iface 25 (.pointer (some ⟨b, o, none⟩)), .int .u32 y] w fun e w' => e = .returned (.tuple #[prV (lpX (atV l) F L y) (lpB (atV l) F L y) (lpH (atV l) F L y), .int .i64 (lpE (atV l) L y)]) ∧ Q w w' := by
  have hFl : F < 4294967296 := by rw [hF]; exact (hl.lt 0).1
  have hLl : L < 4294967296 := by rw [hL]; exact (hl.lt _).1
  have hkk : keyN F < keyN L := by rw [hF, hL]; exact ends_keys hl
  have hkL := keyN_lt hLl
  have HE : Hid (kx l 0 = F ∧ kx l (l.length - 1) = L) := ⟨hF.symm, hL.symm⟩
  have HC : Hid (CIs w b o l) := hc
  have HL : Hid (COk l) := hl
  clear hF hL hc hl
  have hm : ∀ w : World, (method 220 25 (.pointer (some ⟨b, o, none⟩)) "halide/curve.ends").run Try.prog w = .ok (89, .pointer (some ⟨b, o, none⟩)) w := fun _ => by kernel_rfl
  go_enter Try.func47, Try.ntmps47
  go_wp2_with fail
  refine (ends_any b o l HL.out _ (HC.out.next ((((Q.refl w).cells _ _).cells _ _).cells _ _))).mono ?_
  rintro e w1 ⟨rfl, q1⟩
  rw [HE.out.1, HE.out.2]
  have a1 : w1.cell? ⟨w.heap.size, 0, none⟩ = some (.iface 25 (.pointer (some ⟨b, o, none⟩))) := q1.cell (by simp [go_sem])
  have a2 : w1.cell? ⟨w.heap.size + 1, 0, none⟩ = some (.int .u32 y) := q1.cell (by simp [go_sem])
  have r0 : w1.cell? ⟨w.heap.size + 1 + 1, 0, none⟩ = some (.int .u32 0) := q1.cell (by simp [go_sem])
  have r1 : w1.cell? ⟨w.heap.size + 1 + 1, 1, none⟩ = some (.int .u32 0) := q1.cell (by simp [go_sem])
  have r2 : w1.cell? ⟨w.heap.size + 1 + 1, 2, none⟩ = some (.bool false) := q1.cell (by simp [go_sem])
  have z0 : ∀ i, w1.frozen? ⟨w.heap.size + 1 + 1, i, none⟩ = false := fun i => by rw [q1.2]; simp [go_sem]
  have hq : Q w w1 := ((((Q.refl w).cells _ _).cells _ _).cells _ _).trans q1
  have a1' := fun c t => cell_1 a1 c t
  have a2' := fun c t => cell_1 a2 c t
  have s1 : w.heap.size + 1 + 1 + 1 ≤ w1.heap.size := by have := q1.1.size; simpa using this
  have n1 : w1.heap.size ≠ w.heap.size + 1 + 1 := by omega
  clear q1
  go_wp2_with fail
  refine (comes_any b o l HL.out L y hLl _ (HC.out.next (hq.cells _ _))).mono ?_
  rintro e w2 ⟨rfl, q2⟩
  have a3 : w2.cell? ⟨w1.heap.size, 0, none⟩ = some (.int .u32 F) := q2.cell (by simp [go_sem])
  replace a1 := q2.cell (a1' _ _)
  replace a2 := q2.cell (a2' _ _)
  replace r0 := q2.cell (cell_1 r0 _ _)
  replace r1 := q2.cell (cell_1 r1 _ _)
  replace r2 := q2.cell (cell_1 r2 _ _)
  replace z0 : ∀ i, w2.frozen? ⟨w.heap.size + 1 + 1, i, none⟩ = false := fun i => by rw [q2.2, ((Q.refl w1).cells _ _).2]; exact z0 i
  have z1 := z0 0
  have z2 := z0 1
  have z3 := z0 2
  have s2 : w1.heap.size + 1 ≤ w2.heap.size := by have := q2.1.size; simpa using this
  have n2 : w2.heap.size ≠ w.heap.size + 1 + 1 := by omega
  replace hq := (hq.cells _ _).trans q2
  clear q2 a1' a2' z0 s1 s2
  cases hcm : comesB (atV l) L y
  · have HM : Hid (comesB (atV l) L y = false) := hcm
    clear hcm
    go_wp2_with fail
    refine bodyPost_ret (v := .tuple #[prV (lpX (atV l) F L y) (lpB (atV l) F L y) (lpH (atV l) F L y), .int .i64 (lpE (atV l) L y)]) ?_ rfl ⟨rfl, ?_⟩
    · unfold lpX lpB lpH lpE prV
      rw [HM.out]
      simp [results, Try.results47, go_sem, r0, r1, r2]
    · exact ((hq.set (by simp; omega) _).set (by simp; omega) _).set (by simp; omega) _
  · have HM : Hid (comesB (atV l) L y = true) := hcm
    clear hcm
    have a3' := fun c t => cell_1 a3 c t
    go_wp2_with fail
    refine (apart_any F L hFl hLl _).mono ?_
    rintro e w3' ⟨rfl, rfl⟩
    generalize hW : w2.alloc _ = w3
    have q3 : Q w2 w3 := by rw [← hW]; exact (Q.refl w2).cells _ _
    have a4 : w3.cell? ⟨w2.heap.size, 0, none⟩ = some (.func (.func 61) #[] #[.pointer (some ⟨w1.heap.size, 0, none⟩)]) := by rw [← hW]; simp [go_sem]
    clear hW
    replace a1 := q3.cell a1
    replace a2 := q3.cell a2
    replace a3 := q3.cell a3
    replace r0 := q3.cell r0
    replace r1 := q3.cell r1
    replace r2 := q3.cell r2
    have y1 : w3.frozen? ⟨w.heap.size + 1 + 1, 0, none⟩ = false := by rw [q3.2]; exact z1
    have y2 : w3.frozen? ⟨w.heap.size + 1 + 1, 1, none⟩ = false := by rw [q3.2]; exact z2
    have y3 : w3.frozen? ⟨w.heap.size + 1 + 1, 2, none⟩ = false := by rw [q3.2]; exact z3
    replace hq := hq.trans q3
    clear q3 z1 z2 z3 a3'
    have hA : ((keyN L : Int) - (keyN F : Int)) = ((keyN L - keyN F : Nat) : Int) := by omega
    rw [hA]
    clear hA
    go_wp2_with fail
    refine (search_any 65 #[.pointer (some ⟨w.heap.size, 0, none⟩), .pointer (some ⟨w2.heap.size, 0, none⟩), .pointer (some ⟨w.heap.size + 1, 0, none⟩)] (keyN L - keyN F) (fun i => comesB (atV l) (placeN F i) y) _ leastc_enters (by omega) (fun w' i q hi => ?_)).mono ?_
    · exact leastc_any b o w.heap.size w2.heap.size (w.heap.size + 1) w1.heap.size F i y l HL.out hFl (by omega) w' (HC.out.next (hq.trans q)) (q.cell a1) (q.cell a4) (q.cell a2) (q.cell a3)
    rintro e w4 ⟨rfl, q4⟩
    obtain ⟨R, hR⟩ : ∃ R, R = lN (atV l) F L y := ⟨_, rfl⟩
    have hRle := lN_le (atV l) F L y
    rw [← hR] at hRle
    rw [show bis (fun i => comesB (atV l) (placeN F i) y) (keyN L - keyN F) 0 (keyN L - keyN F) = R from hR.symm]
    have HR : Hid (lN (atV l) F L y = R) := hR.symm
    clear hR
    replace a3 := q4.cell a3
    replace a4 := q4.cell a4
    replace r0 := q4.cell r0
    replace r1 := q4.cell r1
    replace r2 := q4.cell r2
    replace y1 : w4.frozen? ⟨w.heap.size + 1 + 1, 0, none⟩ = false := by rw [q4.2]; exact y1
    replace y2 : w4.frozen? ⟨w.heap.size + 1 + 1, 1, none⟩ = false := by rw [q4.2]; exact y2
    replace y3 : w4.frozen? ⟨w.heap.size + 1 + 1, 2, none⟩ = false := by rw [q4.2]; exact y3
    replace hq := hq.trans q4
    clear q4 a1 a2
    by_cases h0 : R = 0
    · subst h0
      go_wp2_with fail
      refine bodyPost_ret (v := .tuple #[prV (lpX (atV l) F L y) (lpB (atV l) F L y) (lpH (atV l) F L y), .int .i64 (lpE (atV l) L y)]) ?_ rfl ⟨rfl, ?_⟩
      · unfold lpX lpB lpH lpE prV
        rw [HM.out, HR.out, place_0 hFl]
        simp [results, Try.results47, go_sem, r0, r1, r2]
      · exact ((hq.set (by simp; omega) _).set (by simp; omega) _).set (by simp; omega) _
    · have hb0 : ((R : Int) == 0) = false := by simp; omega
      have P1 : Hid (∀ w', w'.cell? ⟨w1.heap.size, 0, none⟩ = some (.int .u32 F) → Calls Try.prog 61 #[.int .i64 (R : Int), .pointer (some ⟨w1.heap.size, 0, none⟩)] w' fun e w'' => e = .returned (.int .u32 (placeN F R : Nat)) ∧ w'' = w') := fun w' h => place_any w1.heap.size F R hFl (by omega) w' h
      obtain ⟨S, hS⟩ : ∃ S : Nat, S = R - 1 := ⟨_, rfl⟩
      have hS2 : keyN F + S < 4294967296 := by omega
      have P2 : Hid (∀ w', w'.cell? ⟨w1.heap.size, 0, none⟩ = some (.int .u32 F) → Calls Try.prog 61 #[.int .i64 (S : Int), .pointer (some ⟨w1.heap.size, 0, none⟩)] w' fun e w'' => e = .returned (.int .u32 (placeN F S : Nat)) ∧ w'' = w') := fun w' h => place_any w1.heap.size F S hFl hS2 w' h
      have H0 : Hid (R ≠ 0) := h0
      have i1 : (1 : Int) ≤ (R : Int) := by omega
      have i2 : (R : Int) ≤ 4294967296 := by omega
      have i3 : IntKind.i64.wrap ((R : Int) - 1) = (S : Int) := by rw [IntKind.wrap_i64]; omega
      have HS : Hid (S = R - 1) := hS
      clear hS
      clear h0
      go_wp2_with fail
      go_region_held3 (fun w' => w'.cell? ⟨w2.heap.size, 0, none⟩ = some (.func (.func 61) #[] #[.pointer (some ⟨w1.heap.size, 0, none⟩)]) ∧ w'.cell? ⟨w1.heap.size, 0, none⟩ = some (.int .u32 F)) (first | (refine ⟨?_, ?_⟩ <;> (show (World.setCell (World.setCell (World.setCell _ _ _) _ _) _ _).cell? _ = _; rw [set_other _ (by first | exact n1 | exact n2), set_other _ (by first | exact n1 | exact n2), set_other _ (by first | exact n1 | exact n2)]; first | exact a3 | exact a4)) | go_keep)
        (first | (go_at_call_of 61 S; refine (P2.out _ ?_).mono ?_; assumption; rintro e w' ⟨rfl, rfl⟩) | (go_at_call_of 61 R; refine (P1.out _ ?_).mono ?_; assumption; rintro e w' ⟨rfl, rfl⟩))
      all_goals
        go_wp2_with fail
        refine bodyPost_ret (v := .tuple #[prV (lpX (atV l) F L y) (lpB (atV l) F L y) (lpH (atV l) F L y), .int .i64 (lpE (atV l) L y)]) ?_ rfl ⟨rfl, ?_⟩
        · unfold lpX lpB lpH lpE prV
          rw [HM.out, HR.out, if_neg H0.out, decide_eq_true H0.out, ← HS.out]
          simp [results, Try.results47, go_sem, r0, r1, r2]
        · exact (((hq.set (by simp; omega) _).set (by simp; omega) _).set (by simp; omega) _).drew
end Go.Proofs.Ytfolecnjaaakeaa
