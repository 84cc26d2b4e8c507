/- What a curve's At answers. -/
import Derived.Test.YtmfniimelibhfaaG3a61ac70
namespace Go.Proofs.Ytmfniimelibhfaa
open Go.RowKit

/-- What is reckoned between two knots, as a word of 64 bits. -/
def pieceB (px py qx qy x : Nat) : Nat :=
  ((floatBits .sub .f64 (wideN x) (wideN px)).bind fun A => (floatBits .sub .f64 (wideN qy) (wideN py)).bind fun H => (floatBits .sub .f64 (wideN qx) (wideN px)).bind fun D =>
    (floatBits .quo .f64 H D).bind fun S => (floatBits .mul .f64 A S).bind fun T => floatBits .add .f64 (wideN py) T).getD 0
theorem pieceB_eq {px py qx qy x A H D S T V : Nat} (hA : floatBits .sub .f64 (wideN x) (wideN px) = some A) (hH : floatBits .sub .f64 (wideN qy) (wideN py) = some H) (hD : floatBits .sub .f64 (wideN qx) (wideN px) = some D)
    (hS : floatBits .quo .f64 H D = some S) (hT : floatBits .mul .f64 A S = some T) (hV : floatBits .add .f64 (wideN py) T = some V) : pieceB px py qx qy x = V := by
  unfold pieceB
  rw [hA, hH, hD]
  show ((floatBits .quo .f64 H D).bind fun S => (floatBits .mul .f64 A S).bind fun T => floatBits .add .f64 (wideN py) T).getD 0 = V
  rw [hS]
  show ((floatBits .mul .f64 A S).bind fun T => floatBits .add .f64 (wideN py) T).getD 0 = V
  rw [hT]
  show (floatBits .add .f64 (wideN py) T).getD 0 = V
  rw [hV]; rfl
def pieceV (px py qx qy x : Nat) : Nat := if equalB py qy = true then py else clipV py qy (toldD (some (Ieee.double.read (pieceB px py qx qy x))))

/-- Knots that may be a curve's. -/
structure COk (l : List (Nat × Nat)) : Prop where
  two : 2 ≤ l.length
  many : l.length ≤ 64
  lt : ∀ i, kx l i < 4294967296 ∧ ky l i < 4294967296
  fin : ∀ i, i < l.length → rung32 (kx l i) < 2139095040 ∧ rung32 (ky l i) < 2139095040
  rise : ∀ i, i + 1 < l.length → srung32 (kx l i) < srung32 (kx l (i + 1)) ∧ srung32 (ky l i) ≤ srung32 (ky l (i + 1))

/-- How many knots are not above x, by halves. -/
def aboveV (l : List (Nat × Nat)) (x : Nat) : Nat := bis (fun i => lessB x (kx l i)) l.length 0 l.length
/-- At. -/
def atV (l : List (Nat × Nat)) (x : Nat) : Nat :=
  if nanN x = true then 2143289344
  else if aboveV l x = 0 then ky l 0
  else if aboveV l x = l.length ∨ equalB (kx l (aboveV l x - 1)) x = true then ky l (aboveV l x - 1)
  else pieceV (kx l (aboveV l x - 1)) (ky l (aboveV l x - 1)) (kx l (aboveV l x)) (ky l (aboveV l x)) x
theorem above_facts (l : List (Nat × Nat)) (x : Nat) : aboveV l x ≤ l.length ∧ (aboveV l x = l.length ∨ lessB x (kx l (aboveV l x)) = true) ∧ (aboveV l x = 0 ∨ lessB x (kx l (aboveV l x - 1)) = false) := by
  obtain ⟨_, a, b, c⟩ := bis_facts (fun i => lessB x (kx l i)) (l.length - 0) 0 l.length rfl (Nat.zero_le _)
  exact ⟨a, b, c⟩
theorem lessB_num {a b : Nat} (ha : nanN a = false) (hb : nanN b = false) : lessB a b = decide (srung32 a < srung32 b) := by
  rw [nanN_rung] at ha hb
  have ha := of_decide_eq_false ha
  have hb := of_decide_eq_false hb
  unfold lessB
  rw [order_num32 (by omega) (by omega), cmp_lt]
theorem equalB_num {a b : Nat} (ha : nanN a = false) (hb : nanN b = false) : equalB a b = decide (srung32 a = srung32 b) := by
  rw [nanN_rung] at ha hb
  have ha := of_decide_eq_false ha
  have hb := of_decide_eq_false hb
  unfold equalB
  rw [order_num32 (by omega) (by omega), cmp_eq]
theorem fin_nan {a : Nat} (h : rung32 a < 2139095040) : nanN a = false := by rw [nanN_rung]; exact decide_eq_false (by omega)
theorem wideW_num {a : Nat} (h : nanN a = false) : wideW a = wideN a := by unfold wideW; rw [h]; rfl

theorem within_any {px py qx qy x : Nat} (ha : px < 4294967296) (hb : py < 4294967296) (hc : qx < 4294967296) (hd : qy < 4294967296) (hx : x < 4294967296)
    (fa : rung32 px < 2139095040) (fb : rung32 py < 2139095040) (fc : rung32 qx < 2139095040) (fd : rung32 qy < 2139095040) (fx : rung32 x < 2139095040)
    (h1 : srung32 px < srung32 x) (h2 : srung32 x < srung32 qx) (h3 : srung32 py ≤ srung32 qy) (w : World) :
    Calls Try.prog 42 #[.agg #[.int .u32 px, .int .u32 py], .agg #[.int .u32 qx, .int .u32 qy], .int .u32 x] w fun e w' => e = .returned (.int .u32 (pieceV px py qx qy x : Nat)) ∧ Q w w' := by
  have he := equalB_num (fin_nan fb) (fin_nan fd)
  unfold pieceV
  by_cases g : srung32 py = srung32 qy
  · rw [decide_eq_true g] at he
    rw [if_pos he]
    exact within_flat px py qx qy x he w
  · rw [decide_eq_false g] at he
    rw [if_neg (by rw [he]; decide)]
    obtain ⟨A, H, D, S, T, V, M, N, e1, e2, e3, e4, e5, e6, _⟩ := piece fa fb fc fd fx ((sampleZ_lt_iff _ _).2 h1) ((sampleZ_lt_iff _ _).2 h2) ((sampleZ_lt_iff _ _).2 (by omega)) rfl
    rw [pieceB_eq e1 e2 e3 e4 e5 e6]
    rw [← wideW_num (fin_nan fx), ← wideW_num (fin_nan fa)] at e1
    rw [← wideW_num (fin_nan fd), ← wideW_num (fin_nan fb)] at e2
    rw [← wideW_num (fin_nan fc), ← wideW_num (fin_nan fa)] at e3
    rw [← wideW_num (fin_nan fb)] at e6
    exact within_slope px py qx qy x A H D S T V ha hb hc hd hx he e1 e2 e3 e4 e5 e6 w

/-- A curve lies in memory. -/
structure CIs (w : World) (b o : Nat) (l : List (Nat × Nat)) : Prop where
  it : ∃ g o' cap, w.cell? ⟨b, o, none⟩ = some (.slice (some ⟨g, o', none⟩) l.length cap) ∧ l.length ≤ cap ∧ KIs w g o' l
theorem CIs.next {w w' : World} {b o : Nat} {l : List (Nat × Nat)} (h : CIs w b o l) (q : Q w w') : CIs w' b o l := by
  obtain ⟨g, o', cap, h1, h2, h3⟩ := h.it
  exact ⟨g, o', cap, q.cell h1, h2, h3.next q⟩

theorem cell_1 {w : World} {a : Addr} {v : Value} (h : w.cell? a = some v) (c : Array Value) (t : TypeId) : (w.alloc (.cells c t)).cell? a = some v := ((Q.refl w).cells c t).cell h
theorem cell_2 {w : World} {a : Addr} {v : Value} (h : w.cell? a = some v) (c : Array Value) (t : TypeId) (c' : Array Value) (t' : TypeId) : ((w.alloc (.cells c t)).alloc (.cells c' t')).cell? a = some v := (((Q.refl w).cells c t).cells c' t').cell h
theorem atV_nan {l : List (Nat × Nat)} {x : Nat} (h : nanN x = true) : atV l x = 2143289344 := by unfold atV; rw [if_pos h]
theorem atV_lo {l : List (Nat × Nat)} {x : Nat} (h : nanN x = false) (h0 : aboveV l x = 0) : atV l x = ky l 0 := by unfold atV; rw [if_neg (by rw [h]; decide), if_pos h0]
theorem atV_knot {l : List (Nat × Nat)} {x : Nat} (h : nanN x = false) (h0 : aboveV l x ≠ 0) (h1 : aboveV l x = l.length ∨ equalB (kx l (aboveV l x - 1)) x = true) : atV l x = ky l (aboveV l x - 1) := by
  unfold atV; rw [if_neg (by rw [h]; decide), if_neg h0, if_pos h1]
theorem atV_in {l : List (Nat × Nat)} {x : Nat} (h : nanN x = false) (h0 : aboveV l x ≠ 0) (h1 : aboveV l x ≠ l.length) (h2 : equalB (kx l (aboveV l x - 1)) x = false) :
    atV l x = pieceV (kx l (aboveV l x - 1)) (ky l (aboveV l x - 1)) (kx l (aboveV l x)) (ky l (aboveV l x)) x := by
  unfold atV; rw [if_neg (by rw [h]; decide), if_neg h0, if_neg (by rw [h2]; simp [h1])]

theorem atc_enters : ∀ args w, (callFunc 39 args).run Try.prog w = .ok (.enter 39 args) w := enters_of Try.func39 (by kernel_rfl) rfl

theorem in_facts {l : List (Nat × Nat)} (hl : COk l) {x R : Nat} (hn : nanN x = false) (h0 : R ≠ 0) (hR : R < l.length) (h1 : R = l.length ∨ lessB x (kx l R) = true) (h2 : R = 0 ∨ lessB x (kx l (R - 1)) = false) (h3 : equalB (kx l (R - 1)) x = false) :
    rung32 x < 2139095040 ∧ srung32 (kx l (R - 1)) < srung32 x ∧ srung32 x < srung32 (kx l R) ∧ srung32 (ky l (R - 1)) ≤ srung32 (ky l R) := by
  obtain ⟨fa, _⟩ := hl.fin (R - 1) (by omega)
  obtain ⟨fb, _⟩ := hl.fin R hR
  rcases h1 with h1 | h1
  · omega
  rcases h2 with h2 | h2
  · omega
  rw [lessB_num hn (fin_nan fb)] at h1
  rw [lessB_num hn (fin_nan fa)] at h2
  rw [equalB_num (fin_nan fa) hn] at h3
  have h1 := of_decide_eq_true h1
  have h2 := of_decide_eq_false h2
  have h3 := of_decide_eq_false h3
  have hr := (hl.rise (R - 1) (by omega)).2
  rw [show R - 1 + 1 = R by omega] at hr
  refine ⟨?_, by omega, h1, hr⟩
  unfold srung32 at h1 h2 h3
  rw [nanN_rung] at hn
  split at h1 <;> split at h2 <;> split at h2 <;> omega

set_option maxHeartbeats 4000000 in
theorem at_any (b o : Nat) (l : List (Nat × Nat)) (hl : COk l) (x : Nat) (hx : x < 4294967296) (w : World) (hc : CIs w b o l) :
    Calls Try.prog 13 #[.pointer (some ⟨b, o, none⟩), .int .u32 x] w fun e w' => e = .returned (.int .u32 (atV l x : Nat)) ∧ Q w w' := by
  obtain ⟨g, o', cap, hc1, hcap, hk⟩ := hc.it
  have h1 : (2 : Int) ≤ (l.length : Int) := by have := hl.two; omega
  have h2 : (l.length : Int) ≤ 64 := by have := hl.many; omega
  have hc2 := cell_2 hc1
  cases hn : nanN x
  · obtain ⟨R, hR⟩ : ∃ R, R = aboveV l x := ⟨_, rfl⟩
    obtain ⟨r1, r2, r3⟩ := above_facts l x
    rw [← hR] at r1 r2 r3
    have HR : Hid (aboveV l x = R) := hR.symm
    have R1 : Hid (R = l.length ∨ lessB x (kx l R) = true) := r2
    have R2 : Hid (R = 0 ∨ lessB x (kx l (R - 1)) = false) := r3
    have HN : Hid (nanN x = false) := hn
    have HK : Hid (KIs w g o' l) := hk
    have HO : Hid (COk l) := hl
    clear r2 r3 hR hk hl hc
    go_enter Try.func13, Try.ntmps13
    go_wp2_with fail
    refine (isnan_any x hx _).mono ?_
    rintro e w1 ⟨rfl, q1⟩
    have cp : w1.cell? ⟨w.heap.size, 0, none⟩ = some (.pointer (some ⟨b, o, none⟩)) := q1.cell (by simp [go_sem])
    have cx : w1.cell? ⟨w.heap.size + 1, 0, none⟩ = some (.int .u32 x) := q1.cell (by simp [go_sem])
    have ck := q1.cell (hc2 _ _ _ _)
    have hq : Q w w1 := (((Q.refl w).cells _ _).cells _ _).trans q1
    have hk1 : Hid (KIs w1 g o' l) := HK.out.next hq
    clear q1 hc2 hc1
    go_wp2_with fail
    refine (search_any 39 #[.pointer (some ⟨w.heap.size + 1, 0, none⟩), .pointer (some ⟨w.heap.size, 0, none⟩)] l.length (fun i => lessB x (kx l i)) _ atc_enters (by omega) (fun w' i q hi => ?_)).mono ?_
    · exact atc_any b o g o' cap (w.heap.size + 1) w.heap.size l x i hi w' (q.cell cx) (q.cell cp) (q.cell ck) (hk1.out.next q)
    rintro e w2 ⟨rfl, q2⟩
    rw [show bis (fun i => lessB x (kx l i)) l.length 0 l.length = R from HR.out]
    replace cp := q2.cell cp
    replace cx := q2.cell cx
    replace ck := q2.cell ck
    replace hq := hq.trans q2
    have hk2 : Hid (KIs w2 g o' l) := hk1.out.next q2
    clear q2 hk1 HK
    by_cases h0 : R = 0
    · subst h0
      have k0 := (hk2.out 0 (by omega)).2
      rw [Nat.zero_mul, Nat.add_zero] at k0
      go_wp2_with fail
      go_ret
      exact ⟨ret_int (by rw [atV_lo HN.out HR.out]), hq⟩
    · have hb0 : ((R : Int) == 0) = false := by simp; omega
      have hpos : (1 : Int) ≤ (R : Int) := by omega
      have hle : (R : Int) ≤ (l.length : Int) := by omega
      by_cases hend : R = l.length
      · have kl := (hk2.out (R - 1) (by omega)).2
        have g1 : (l.length : Int) - 1 < (R : Int) := by omega
        have g2 : (R : Int) - 1 < (l.length : Int) := by omega
        have HE : Hid (R = l.length) := hend
        have HZ : Hid (R ≠ 0) := h0
        clear hend h0 r1
        go_wp2_with fail
        go_quiet ((go_at_call 41; exact Calls.quiet_of_same (equal_any _ _ _)))
        go_wp2_with fail
        go_ret
        exact ⟨ret_int (by rw [atV_knot HN.out (by rw [HR.out]; exact HZ.out) (Or.inl (by rw [HR.out]; exact HE.out)), HR.out]), hq.drewN _⟩
      · obtain ⟨ka, kb⟩ := hk2.out (R - 1) (by omega)
        obtain ⟨kc, kd⟩ := hk2.out R (by omega)
        have g1 : (R : Int) ≤ (l.length : Int) - 1 := by omega
        have gb : decide ((l.length : Int) - 1 < (R : Int)) = false := decide_eq_false (by omega)
        have g2 : (R : Int) - 1 < (l.length : Int) := by omega
        have g3 : (R : Int) < (l.length : Int) := by omega
        have HE : Hid (R ≠ l.length) := hend
        have HZ : Hid (R ≠ 0) := h0
        clear hend h0 r1
        go_wp2_with fail
        go_quiet ((go_at_call 41; exact Calls.quiet_of_same (equal_any _ _ _)))
        cases he : equalB (kx l (R - 1)) x
        · have HX : Hid (equalB (kx l (R - 1)) x = false) := he
          clear he
          go_wp2_with fail
          obtain ⟨w3, hw3⟩ : ∃ w3, w3 = w2.drewN nq := ⟨_, rfl⟩
          rw [← hw3]
          have q3 : Q w2 w3 := by rw [hw3]; exact (Q.refl _).drewN _
          clear hw3
          have d1 := qw_cell (q3.cell cp)
          have d2 := qw_cell (q3.cell cx)
          have d3 := qw_cell (q3.cell ck)
          have d4 := qw_cell (q3.cell ka)
          have d5 := qw_cell (q3.cell kb)
          have d6 := qw_cell (q3.cell kc)
          have d7 := qw_cell (q3.cell kd)
          have n0 := qw_some w3
          replace hq := hq.trans q3
          clear q3 cp cx ck ka kb kc kd hk2
          obtain ⟨z0, z1, z2, z3⟩ := in_facts HO.out HN.out HZ.out (show R < l.length by omega) R1.out R2.out HX.out
          have hw := within_any (HO.out.lt (R - 1)).1 (HO.out.lt (R - 1)).2 (HO.out.lt R).1 (HO.out.lt R).2 hx (HO.out.fin (R - 1) (by omega)).1 (HO.out.fin (R - 1) (by omega)).2 (HO.out.fin R (by omega)).1 (HO.out.fin R (by omega)).2 z0 z1 z2 z3
          have HW : Hid _ := hw
          clear hw z0 z1 z2 z3
          refine wp_region_quiet_Q (by kernel_rfl) (by kernel_rfl) ?_
          repeat (first | go_big_quiet_step ((go_at_call 42; exact calls_qw (HW.out _))) | quiet_step ((go_at_call 42; exact calls_qw (HW.out _))))
          refine wpQuiet_nil ?_
          intro w4 hw'
          have hq4 := qw_out hw'
          clear hw'
          go_wp2_with fail
          go_ret
          exact ⟨ret_int (by rw [atV_in HN.out (by rw [HR.out]; exact HZ.out) (by rw [HR.out]; exact HE.out) (by rw [HR.out]; exact HX.out), HR.out]), hq.trans hq4⟩
        · have HX : Hid (equalB (kx l (R - 1)) x = true) := he
          clear he
          go_wp2_with fail
          go_ret
          exact ⟨ret_int (by rw [atV_knot HN.out (by rw [HR.out]; exact HZ.out) (Or.inr (by rw [HR.out]; exact HX.out)), HR.out]), hq.drewN _⟩
  · rw [atV_nan hn]
    go_enter Try.func13, Try.ntmps13
    go_wp2_with fail
    refine (isnan_any x hx _).mono ?_
    rintro e w1 ⟨rfl, q1⟩
    go_wp2_with fail
    go_ret
    exact ⟨rfl, (((Q.refl w).cells _ _).cells _ _).trans q1⟩
end Go.Proofs.Ytmfniimelibhfaa
