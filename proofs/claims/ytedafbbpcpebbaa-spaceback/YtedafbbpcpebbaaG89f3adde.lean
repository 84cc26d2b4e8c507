/- What the reference's Round, bits and num return of whatever number and sample. -/
import Derived.Test.YtedafbbpcpebbaaG7de18513
namespace Go.Proofs.Ytedafbbpcpebbaa
open Go.RowKit

/-- The word that a number is rounded to. -/
def roundR : RNum → Nat
  | ⟨none⟩ => 2143289344
  | ⟨some (.inl s)⟩ => Ieee.single.word s 2139095040
  | ⟨some (.inr (s, n, e, m))⟩ => Ieee.single.word s (rungOf Ieee.single (2 * n + m.toNat) (e - 1))
/-- Numbers that Round takes. -/
def fits : RNum → Prop
  | ⟨some (.inr (_, n, e, m))⟩ => blen n ≤ 6000 ∧ -5000 ≤ e ∧ e ≤ 5000 ∧ (m = true → n ≠ 0 ∧ e + 1 ≤ lastOf Ieee.single n e)
  | _ => True
theorem rung_le (f : Ieee.Format) (m : Nat) (p : Int) : rungOf f m p ≤ f.infRung := by
  unfold rungOf; split
  · exact Nat.zero_le _
  · exact Nat.min_le_right _ _
theorem roundR_lt (x : RNum) : roundR x < 4294967296 := by
  cases x using RNum.rec3 with
  | nan => decide
  | inf s => exact word_lt (by decide)
  | fin s n e m =>
    refine word_lt ?_
    have := rung_le Ieee.single (2 * n + m.toNat) (e - 1)
    rw [single_inf] at this
    omega

set_option maxHeartbeats 4000000 in
set_option maxRecDepth 1000000 in
theorem round32_any (v : Value) (x : RNum) (w : World) (hx : NumAt w v x) (hf : fits x) :
    Calls Try.prog 66 #[.agg #[.int .i64 23, .int .i64 8], v] w fun e w' => e = .returned (.int .u64 (roundR x : Int)) ∧ Q w w' := by
  cases x using RNum.rec3 with
  | nan =>
    obtain ⟨b, e, m, rfl⟩ := hx
    go_enter Try.func66, Try.ntmps66
    go_wp2_with fail
    refine (fmade_any 23 8 2143289344 (by decide) _).mono ?_
    rintro e w1 ⟨rfl, q1⟩
    go_wp2_with fail
    go_ret
    exact ⟨rfl, (((Q.refl w).cells _ _).cells _ _).trans q1⟩
  | inf s =>
    obtain ⟨e, m, rfl⟩ := hx
    have w4 : IntKind.u64.wrap 2139095040 = 2139095040 := by decide
    have hor := or_word (neg := s) (r := 2139095040) (by decide)
    rw [show ((2139095040 : Nat) : Int) = 2139095040 from rfl] at hor
    obtain ⟨Wd, hWd⟩ : ∃ Wd : Nat, Wd = Ieee.single.word s 2139095040 := ⟨_, rfl⟩
    rw [← hWd] at hor
    have HWD : Hid _ := hWd
    clear hWd
    go_enter Try.func66, Try.ntmps66
    go_wp2_with fail
    go_region_held3 (fun w' => w'.cell? ⟨w.heap.size, 0, none⟩ = some (.int .i64 23) ∧ w'.cell? ⟨w.heap.size, 1, none⟩ = some (.int .i64 8) ∧ w'.cell? ⟨w.heap.size + 1, 1, none⟩ = some (.bool s)) (first | (simp [go_sem]; done) | go_keep) (first | (go_at_call 85; refine (sign_any 23 8 false s (by decide) _).mono ?_; rintro x v1 ⟨rfl, rfl⟩) | (go_at_call 82; refine (top_any 23 8 255 (by decide) _).mono ?_; rintro x v1 ⟨rfl, rfl⟩))
    all_goals
      go_wp2_with fail
      go_ret
      exact ⟨ret_int (by rw [HWD.out]; rfl), (((((Q.refl w).cells _ _).cells _ _).cells _ _).cells _ _).drew⟩
  | fin s n e m =>
    obtain ⟨nv, rfl, hn⟩ := hx
    exact round32_fin s nv n e m w hn hf.1 hf.2.1 hf.2.2.1 hf.2.2.2

/-- A number stays where a struct of another kind is written. -/
theorem natAt_but {w w' : World} {v : Value} {n rb : Nat} {z : Int} (h : NatAt w v n) (h0 : w.cell? ⟨rb, 0, none⟩ = some (.int .i64 z)) (ha : ∀ a : Addr, a.block ≠ rb → w'.cell? a = w.cell? a) : NatAt w' v n := by
  obtain ⟨p, b, L, C, e, hn⟩ := h
  refine ⟨p, b, L, C, e, hn.ptr, fun i hi => ?_, hn.hi, hn.lo, hn.len⟩
  have hne : b ≠ rb := fun g => by
    subst g
    have := hn.cell 0 (by omega)
    rw [h0] at this
    cases this
  rw [ha ⟨b, i, none⟩ hne]; exact hn.cell i hi
theorem numAt_but {w w' : World} {v : Value} {x : RNum} {rb : Nat} {z : Int} (h : NumAt w v x) (h0 : w.cell? ⟨rb, 0, none⟩ = some (.int .i64 z)) (ha : ∀ a : Addr, a.block ≠ rb → w'.cell? a = w.cell? a) : NumAt w' v x := by
  cases x using RNum.rec3 with
  | nan => exact h
  | inf s => exact h
  | fin s n e m =>
    obtain ⟨nv, e, hn⟩ := h
    exact ⟨nv, e, natAt_but hn h0 ha⟩
theorem set_but (w : World) {rb i : Nat} {x : Value} {a : Addr} (h : a.block ≠ rb) : (w.setCell ⟨rb, i, none⟩ x).cell? a = w.cell? a :=
  World.cell?_setCell_other _ _ _ _ (fun e => h (by rw [← e]))
/-- What every number is made of. -/
theorem NumAt.made {w : World} {v : Value} {x : RNum} (h : NumAt w v x) : ∃ k s p L C e m, v = .agg #[.int .i64 k, .bool s, .slice p L C, .int .i64 e, .bool m] := by
  cases x using RNum.rec3 with
  | nan => obtain ⟨b, e, m, rfl⟩ := h; exact ⟨_, _, _, _, _, _, _, rfl⟩
  | inf s => obtain ⟨e, m, rfl⟩ := h; exact ⟨_, _, _, _, _, _, _, rfl⟩
  | fin s n e m =>
    obtain ⟨nv, rfl, p, b, L, C, rfl, hn⟩ := h
    exact ⟨_, _, _, _, _, _, _, rfl⟩
/-- A block of five cells as a new struct has them, none of them frozen. -/
structure Res5 (w : World) (rb : Nat) : Prop where
  c0 : w.cell? ⟨rb, 0, none⟩ = some (.int .i64 0)
  c1 : w.cell? ⟨rb, 1, none⟩ = some (.bool false)
  c2 : w.cell? ⟨rb, 2, none⟩ = some (.slice none 0 0)
  c3 : w.cell? ⟨rb, 3, none⟩ = some (.int .i64 0)
  c4 : w.cell? ⟨rb, 4, none⟩ = some (.bool false)
  z : ∀ i, w.frozen? ⟨rb, i, none⟩ = false
theorem Res5.next {w w' : World} {rb : Nat} (h : Res5 w rb) (q : Q w w') : Res5 w' rb :=
  ⟨q.cell h.c0, q.cell h.c1, q.cell h.c2, q.cell h.c3, q.cell h.c4, fun i => by rw [q.2]; exact h.z i⟩

set_option maxHeartbeats 2000000 in
theorem num_any (b : Nat) (w : World) (hb : b < 4294967296) :
    Calls Try.prog 72 #[.int .u32 b] w fun e w' => ∃ v, e = .returned v ∧ NumAt w' v (numOf Ieee.single b) ∧ Q w w' := by
  go_enter Try.func72, Try.ntmps72
  go_wp2_with fail
  refine (f32_any _).mono ?_
  rintro e w1 ⟨rfl, q1⟩
  have hr1 : Res5 w1 w.heap.size := Res5.next ⟨by simp [go_sem], by simp [go_sem], by simp [go_sem], by simp [go_sem], by simp [go_sem], fun i => by simp [go_sem]⟩ q1
  have hq1 : Q w w1 := ((Q.refl w).cells _ _).trans q1
  clear q1
  go_wp2_with fail
  refine (of32_any b _ hb).mono ?_
  rintro e w2 ⟨v, rfl, hv, q2⟩
  have hr2 := hr1.next q2
  have hq2 := hq1.trans q2
  have c0 := hr2.c0
  have c1 := hr2.c1
  have c2 := hr2.c2
  have c3 := hr2.c3
  have c4 := hr2.c4
  have z0 := hr2.z 0
  have z1 := hr2.z 1
  have z2 := hr2.z 2
  have z3 := hr2.z 3
  have z4 := hr2.z 4
  clear hr1 hr2 hq1 q2
  obtain ⟨k, s, p, L, C, ee, m, rfl⟩ := hv.made
  have HV : Hid _ := hv
  clear hv
  go_wp2_with fail
  refine bodyPost_ret (v := .agg #[.int .i64 k, .bool s, .slice p L C, .int .i64 ee, .bool m]) (by simp [results, Try.results72, go_sem, c0, c1, c2, c3, c4]) rfl ⟨_, rfl, ?_, ?_⟩
  · refine numAt_but HV.out c0 (fun a ha => ?_)
    repeat rw [set_but _ ha]
  · exact ((((hq2.set (Nat.le_refl _) _).set (Nat.le_refl _) _).set (Nat.le_refl _) _).set (Nat.le_refl _) _).set (Nat.le_refl _) _

set_option maxHeartbeats 2000000 in
theorem rbits_any (v : Value) (x : RNum) (w : World) (hx : NumAt w v x) (hf : fits x) :
    Calls Try.prog 73 #[v] w fun e w' => e = .returned (.int .u32 (roundR x : Int)) ∧ Q w w' := by
  have hlt := roundR_lt x
  obtain ⟨R, hR⟩ : ∃ R, R = roundR x := ⟨_, rfl⟩
  have HR : Hid _ := hR
  rw [← hR] at hlt
  clear hR
  obtain ⟨k, s, p, L, C, ee, m, rfl⟩ := hx.made
  have HV : Hid _ := hx
  clear hx
  have hw : IntKind.u32.wrap (R : Int) = (R : Int) := by rw [IntKind.wrap_u32]; omega
  go_enter Try.func73, Try.ntmps73
  go_wp2_with fail
  go_region_held3 (fun w' => w'.cell? ⟨w.heap.size, 0, none⟩ = some (.int .i64 k) ∧ w'.cell? ⟨w.heap.size, 1, none⟩ = some (.bool s) ∧ w'.cell? ⟨w.heap.size, 2, none⟩ = some (.slice p L C) ∧ w'.cell? ⟨w.heap.size, 3, none⟩ = some (.int .i64 ee) ∧ w'.cell? ⟨w.heap.size, 4, none⟩ = some (.bool m)) (first | (simp [go_sem]; done) | (refine ⟨?_, ?_, ?_, ?_, ?_⟩ <;> assumption) | go_keep) (first | (go_at_call 54; refine (f32_any _).mono ?_; rintro e w1 ⟨rfl, q1⟩; have d0 : w1.cell? ⟨w.heap.size, 0, none⟩ = some (.int .i64 k) := q1.cell (by simp [go_sem]); have d1 : w1.cell? ⟨w.heap.size, 1, none⟩ = some (.bool s) := q1.cell (by simp [go_sem]); have d2 : w1.cell? ⟨w.heap.size, 2, none⟩ = some (.slice p L C) := q1.cell (by simp [go_sem]); have d3 : w1.cell? ⟨w.heap.size, 3, none⟩ = some (.int .i64 ee) := q1.cell (by simp [go_sem]); have d4 : w1.cell? ⟨w.heap.size, 4, none⟩ = some (.bool m) := q1.cell (by simp [go_sem])) | (go_at_call 66; refine (round32_any _ x _ (Q.num ((((Q.refl w).cells _ _).drew).trans q1) HV.out) hf).mono ?_; rintro e w2 ⟨rfl, q2⟩; have f0 := q2.cell d0; have f1 := q2.cell d1; have f2 := q2.cell d2; have f3 := q2.cell d3; have f4 := q2.cell d4; rw [← HR.out]))
  all_goals
    go_wp2_with fail
    go_ret
    exact ⟨ret_int (by rw [HR.out]), ((((Q.refl w).cells _ _).drew).trans q1).trans q2⟩
end Go.Proofs.Ytedafbbpcpebbaa
/- What the reference's PlusNum returns: the exact sum. -/
namespace Go.Proofs.Ytedafbbpcpebbaa
open Go.RowKit

/-- The exact sum. -/
def plusFin (s t : Bool) (x y : Nat) (b : Int) : RNum :=
  if s = t then .fin s (x + y) b false
  else if x = y then .fin false 0 b false
  else if y < x then .fin s (x - y) b false
  else .fin t (y - x) b false
def plusR : RNum → RNum → RNum
  | ⟨none⟩, _ => .nan
  | ⟨some (.inl _)⟩, ⟨none⟩ => .nan
  | ⟨some (.inr _)⟩, ⟨none⟩ => .nan
  | ⟨some (.inl s)⟩, ⟨some (.inl t)⟩ => if s = t then .inf s else .nan
  | ⟨some (.inl s)⟩, ⟨some (.inr _)⟩ => .inf s
  | ⟨some (.inr _)⟩, ⟨some (.inl t)⟩ => .inf t
  | ⟨some (.inr (s, n, e, _))⟩, ⟨some (.inr (t, m, f, _))⟩ => plusFin s t (n * 2 ^ (e - min e f).toNat) (m * 2 ^ (f - min e f).toNat) (min e f)
/-- Numbers that PlusNum takes. -/
def small : RNum → Prop
  | ⟨some (.inr (_, n, e, _))⟩ => blen n ≤ 2000 ∧ -2000 ≤ e ∧ e ≤ 2000
  | _ => True

/-- The cells that PlusNum reads and writes behind the shifts. -/
structure PBox (w wc : World) (s t : Bool) : Prop where
  q : Q w wc
  a1 : wc.cell? ⟨w.heap.size, 1, none⟩ = some (.bool s)
  b1 : wc.cell? ⟨w.heap.size + 1, 1, none⟩ = some (.bool t)
  r : Res5 wc (w.heap.size + 1 + 1)
theorem PBox.next {w wc wd : World} {s t : Bool} (h : PBox w wc s t) (q : Q wc wd) : PBox w wd s t :=
  ⟨h.q.trans q, q.cell h.a1, q.cell h.b1, h.r.next q⟩

set_option maxHeartbeats 4000000 in
set_option maxRecDepth 1000000 in
theorem plus_odd (va vb : Value) (x y : RNum) (w : World) (hx : NumAt w va x) (hy : NumAt w vb y) (hne : ∀ s n e m t k f g, ¬ (x = .fin s n e m ∧ y = .fin t k f g)) :
    Calls Try.prog 29 #[va, vb] w fun e w' => ∃ v, e = .returned v ∧ NumAt w' v (plusR x y) ∧ Q w w' := by
  cases x using RNum.rec3 with
  | nan =>
    obtain ⟨b, e, m, rfl⟩ := hx
    obtain ⟨k, s, p, L, C, ee, mm, rfl⟩ := hy.made
    clear hy hne
    go_enter Try.func29, Try.ntmps29
    go_wp2_with fail
    refine bodyPost_ret (v := .agg #[.int .i64 0, .bool false, .slice none 0 0, .int .i64 0, .bool false]) (by simp [results, Try.results29, go_sem]) rfl ⟨_, rfl, ⟨_, _, _, rfl⟩, ?_⟩
    exact (((Q.refl w).cells _ _).cells _ _).cells _ _
  | inf s =>
    obtain ⟨e, m, rfl⟩ := hx
    cases y using RNum.rec3 with
    | nan =>
      obtain ⟨b, e', m', rfl⟩ := hy
      go_enter Try.func29, Try.ntmps29
      go_wp2_with fail
      refine bodyPost_ret (v := .agg #[.int .i64 0, .bool false, .slice none 0 0, .int .i64 0, .bool false]) (by simp [results, Try.results29, go_sem]) rfl ⟨_, rfl, ⟨_, _, _, rfl⟩, ?_⟩
      exact (((Q.refl w).cells _ _).cells _ _).cells _ _
    | inf t =>
      obtain ⟨e', m', rfl⟩ := hy
      clear hne
      cases s <;> cases t
      · go_enter Try.func29, Try.ntmps29
        go_wp2_with fail
        refine bodyPost_ret (v := .agg #[.int .i64 1, .bool false, .slice none 0 0, .int .i64 e, .bool m]) (by simp [results, Try.results29, go_sem]) rfl ⟨_, rfl, ⟨_, _, rfl⟩, ?_⟩
        exact (((Q.refl w).cells _ _).cells _ _).cells _ _
      · go_enter Try.func29, Try.ntmps29
        go_wp2_with fail
        refine bodyPost_ret (v := .agg #[.int .i64 0, .bool false, .slice none 0 0, .int .i64 0, .bool false]) (by simp [results, Try.results29, go_sem]) rfl ⟨_, rfl, ⟨_, _, _, rfl⟩, ?_⟩
        exact (((Q.refl w).cells _ _).cells _ _).cells _ _
      · go_enter Try.func29, Try.ntmps29
        go_wp2_with fail
        refine bodyPost_ret (v := .agg #[.int .i64 0, .bool false, .slice none 0 0, .int .i64 0, .bool false]) (by simp [results, Try.results29, go_sem]) rfl ⟨_, rfl, ⟨_, _, _, rfl⟩, ?_⟩
        exact (((Q.refl w).cells _ _).cells _ _).cells _ _
      · go_enter Try.func29, Try.ntmps29
        go_wp2_with fail
        refine bodyPost_ret (v := .agg #[.int .i64 1, .bool true, .slice none 0 0, .int .i64 e, .bool m]) (by simp [results, Try.results29, go_sem]) rfl ⟨_, rfl, ⟨_, _, rfl⟩, ?_⟩
        exact (((Q.refl w).cells _ _).cells _ _).cells _ _
    | fin t k f g =>
      obtain ⟨nv, rfl, p, b, L, C, rfl, hn⟩ := hy
      clear hne
      go_enter Try.func29, Try.ntmps29
      go_wp2_with fail
      refine bodyPost_ret (v := .agg #[.int .i64 1, .bool s, .slice none 0 0, .int .i64 e, .bool m]) (by simp [results, Try.results29, go_sem]) rfl ⟨_, rfl, ⟨_, _, rfl⟩, ?_⟩
      exact (((Q.refl w).cells _ _).cells _ _).cells _ _
  | fin s n e m =>
    obtain ⟨nv, rfl, p, b, L, C, rfl, hn⟩ := hx
    cases y using RNum.rec3 with
    | nan =>
      obtain ⟨b', e', m', rfl⟩ := hy
      clear hne
      go_enter Try.func29, Try.ntmps29
      go_wp2_with fail
      refine bodyPost_ret (v := .agg #[.int .i64 0, .bool false, .slice none 0 0, .int .i64 0, .bool false]) (by simp [results, Try.results29, go_sem]) rfl ⟨_, rfl, ⟨_, _, _, rfl⟩, ?_⟩
      exact (((Q.refl w).cells _ _).cells _ _).cells _ _
    | inf t =>
      obtain ⟨e', m', rfl⟩ := hy
      clear hne
      go_enter Try.func29, Try.ntmps29
      go_wp2_with fail
      refine bodyPost_ret (v := .agg #[.int .i64 1, .bool t, .slice none 0 0, .int .i64 e', .bool m']) (by simp [results, Try.results29, go_sem]) rfl ⟨_, rfl, ⟨_, _, rfl⟩, ?_⟩
      exact (((Q.refl w).cells _ _).cells _ _).cells _ _
    | fin t k f g => exact absurd ⟨rfl, rfl⟩ (hne s n e m t k f g)

theorem far2 (w : World) : w.heap.size ≤ w.heap.size + 1 + 1 := by omega
theorem far3 (w : World) : (⟨w.heap.size, 1, none⟩ : Addr).block ≠ w.heap.size + 1 + 1 := by show w.heap.size ≠ _; omega
theorem far4 (w : World) : (⟨w.heap.size + 1, 1, none⟩ : Addr).block ≠ w.heap.size + 1 + 1 := by show w.heap.size + 1 ≠ _; omega
theorem add_cap {x y : Nat} (hx : x < 2 ^ 6000) (hy : y < 2 ^ 6000) : x + y < cap := by
  obtain ⟨j, hj⟩ : ∃ j, j = 6000 := ⟨_, rfl⟩
  rw [← hj] at hx hy
  exact lt_cap (k := j + 1) (by rw [Nat.pow_succ]; omega) (by omega)
theorem shifted_lt {k : Nat} (n d : Nat) (h : blen n + d ≤ k) : n * 2 ^ d < 2 ^ k := by
  have h1 : n * 2 ^ d < 2 ^ blen n * 2 ^ d := Nat.mul_lt_mul_of_pos_right (blen_lt n) (Nat.two_pow_pos d)
  rw [← Nat.pow_add] at h1
  exact Nat.lt_of_lt_of_le h1 (Nat.pow_le_pow_right (by decide) h)

set_option maxHeartbeats 8000000 in
set_option maxRecDepth 1000000 in
theorem plus_fin (s t m m' : Bool) (va vb : Value) (n k : Nat) (e f : Int) (w : World) (hn : NatAt w va n) (hk : NatAt w vb k)
    (n1 : blen n ≤ 2000) (e0 : -2000 ≤ e) (e1 : e ≤ 2000) (k1 : blen k ≤ 2000) (f0 : -2000 ≤ f) (f1 : f ≤ 2000) :
    Calls Try.prog 29 #[.agg #[.int .i64 2, .bool s, va, .int .i64 e, .bool m], .agg #[.int .i64 2, .bool t, vb, .int .i64 f, .bool m']] w
      fun x w' => ∃ v, x = .returned v ∧ NumAt w' v (plusFin s t (n * 2 ^ (e - min e f).toNat) (k * 2 ^ (f - min e f).toNat) (min e f)) ∧ Q w w' := by
  obtain ⟨b, hb⟩ : ∃ b, b = min e f := ⟨_, rfl⟩
  rw [← hb]
  obtain ⟨da, hda⟩ : ∃ da : Nat, da = (e - b).toNat := ⟨_, rfl⟩
  obtain ⟨db, hdb⟩ : ∃ db : Nat, db = (f - b).toNat := ⟨_, rfl⟩
  rw [← hda, ← hdb]
  have ea : e - b = (da : Int) := by omega
  have eb : f - b = (db : Int) := by omega
  have b0 : -2000 ≤ b := by omega
  have b1 : b ≤ 2000 := by omega
  have hda4 : da ≤ 4000 := by omega
  have hdb4 : db ≤ 4000 := by omega
  have wa : IntKind.i64.wrap (da : Int) = (da : Int) := by rw [IntKind.wrap_i64]; omega
  have wb : IntKind.i64.wrap (db : Int) = (db : Int) := by rw [IntKind.wrap_i64]; omega
  have hcx := shifted_lt (k := 6000) n da (by omega)
  have hcy := shifted_lt (k := 6000) k db (by omega)
  obtain ⟨X, hX⟩ : ∃ X, X = n * 2 ^ da := ⟨_, rfl⟩
  obtain ⟨Y, hY⟩ : ∃ Y, Y = k * 2 ^ db := ⟨_, rfl⟩
  have hcap1 : Hid (n * 2 ^ da < cap) := lt_cap hcx (by decide)
  have hcap2 : Hid (k * 2 ^ db < cap) := lt_cap hcy (by decide)
  have hcap3 : Hid (X + Y < cap) := by
    show X + Y < cap
    rw [hX, hY]
    exact add_cap hcx hcy
  rw [← hX, ← hY]
  have HX : Hid _ := hX
  have HY : Hid _ := hY
  have HBM : Hid _ := hb
  clear hcx hcy hX hY hda hdb
  obtain ⟨pa, ba, La, Ca, rfl, hnI⟩ := hn
  obtain ⟨pb, bb, Lb, Cb, rfl, hkI⟩ := hk
  have HNA : Hid (NatAt w (.slice pa La Ca) n) := ⟨pa, ba, La, Ca, rfl, hnI⟩
  have HKA : Hid (NatAt w (.slice pb Lb Cb) k) := ⟨pb, bb, Lb, Cb, rfl, hkI⟩
  clear hnI hkI hb
  go_enter Try.func29, Try.ntmps29
  go_upto_region 7 with fail
  go_cut [5] from 9 (fun s5 wc => s5 = .int .i64 b ∧ wc.cell? ⟨w.heap.size, 2, none⟩ = some (.slice pa La Ca) ∧ wc.cell? ⟨w.heap.size, 3, none⟩ = some (.int .i64 e) ∧ wc.cell? ⟨w.heap.size + 1, 2, none⟩ = some (.slice pb Lb Cb) ∧ wc.cell? ⟨w.heap.size + 1, 3, none⟩ = some (.int .i64 f) ∧ PBox w wc s t)
  case first =>
    go_wp2_with fail
    all_goals
      go_meet
      case rel =>
        go_light
        refine ⟨congrArg (Value.int .i64) (by have := HBM.out; omega), by simp [go_sem], by simp [go_sem], by simp [go_sem], by simp [go_sem], (((Q.refl w).cells _ _).cells _ _).cells _ _, by simp [go_sem], by simp [go_sem], ⟨by simp [go_sem], by simp [go_sem], by simp [go_sem], by simp [go_sem], by simp [go_sem], fun i => by simp [go_sem]⟩⟩
  case rest =>
    obtain ⟨rfl, a2, a3, c2, c3, hB⟩ := hcut
    go_upto_region 8 with fail
    go_cut [6, 7] from 9 (fun s6 s7 wd => NatAt wd s6 X ∧ NatAt wd s7 Y ∧ PBox w wd s t)
    case first =>
      go_region_held3 (fun w' => w'.cell? ⟨w.heap.size, 2, none⟩ = some (.slice pa La Ca) ∧ w'.cell? ⟨w.heap.size, 3, none⟩ = some (.int .i64 e) ∧ w'.cell? ⟨w.heap.size + 1, 2, none⟩ = some (.slice pb Lb Cb) ∧ w'.cell? ⟨w.heap.size + 1, 3, none⟩ = some (.int .i64 f)) (first | (refine ⟨?_, ?_, ?_, ?_⟩ <;> assumption) | (simp [a2, a3, c2, c3]; done) | go_keep) (first | (go_at_call_of 57 (Value.slice pa La Ca); refine (up_any _ n da _ (Q.nat hB.q.drew HNA.out) hcap1.out).mono ?_; rintro x w1 ⟨v1, rfl, hv1, q1⟩; have g2 := q1.cell (p := ⟨w.heap.size, 2, none⟩) a2; have g3 := q1.cell (p := ⟨w.heap.size, 3, none⟩) a3; have g4 := q1.cell (p := ⟨w.heap.size + 1, 2, none⟩) c2; have g5 := q1.cell (p := ⟨w.heap.size + 1, 3, none⟩) c3) | (go_at_call_of 57 (Value.slice pb Lb Cb); refine (up_any _ k db _ (Q.nat (hB.q.drew.trans q1) HKA.out) hcap2.out).mono ?_; rintro x w2 ⟨v2, rfl, hv2, q2⟩; have h2 := q2.cell g2; have h3 := q2.cell g3; have h4 := q2.cell g4; have h5 := q2.cell g5))
      all_goals
        go_wp2_with fail
        go_meet
        case rel =>
          go_light
          exact ⟨by rw [HX.out]; exact q2.nat hv1, by rw [HY.out]; exact hv2, ((hB.next (Q.refl _).drew).next q1).next q2⟩
    case rest =>
      obtain ⟨h6, h7, hB2⟩ := hcut
      have a1 := hB2.a1
      have b1 := hB2.b1
      have H6 : Hid _ := h6
      have H7 : Hid _ := h7
      clear ea eb wa wb a2 a3 c2 c3 h6 h7
      cases hst : (s == t)
      · have hne : s ≠ t := by simpa using hst
        go_wp2_with fail
        refine (compare_any _ _ X Y _ H6.out H7.out).mono ?_
        rintro x w3 ⟨rfl, q3⟩
        have hB3 := hB2.next q3
        have a1 := hB3.a1
        have b1 := hB3.b1
        have J6 : Hid _ := q3.nat H6.out
        have J7 : Hid _ := q3.nat H7.out
        clear hB2
        rcases Nat.lt_trichotomy X Y with hc | hc | hc
        · have ec : cmpV X Y = -1 := by unfold cmpV; rw [if_pos hc]
          rw [ec]
          have HC : Hid _ := hc
          clear ec hc
          go_wp2_with fail
          go_region_with (first | (go_at_call 61; refine (minus_any _ _ Y X _ (Q.nat (Q.refl _).drew J7.out) (Q.nat (Q.refl _).drew J6.out) (Nat.lt_of_le_of_lt (Nat.le_add_left _ _) hcap3.out) (Nat.le_of_lt HC.out)).mono ?_; rintro x w4 ⟨v4, rfl, hv4, q4⟩; obtain ⟨p4, b4, L4, C4, rfl, hI4⟩ := hv4; have n1 := q4.cell (p := ⟨w.heap.size + 1, 1, none⟩) b1; have R := hB3.r.next ((Q.refl _).drew.trans q4); have d0 := R.c0; have d1 := R.c1; have d2 := R.c2; have d3 := R.c3; have d4 := R.c4; have y0 := R.z 0; have y1 := R.z 1; have y2 := R.z 2; have y3 := R.z 3; have y4 := R.z 4))
          all_goals
            go_wp2_with fail
            refine bodyPost_ret (v := .agg #[.int .i64 2, .bool t, .slice p4 L4 C4, .int .i64 b, .bool false]) (by simp [results, Try.results29, go_sem, d0, d1, d2, d3, d4]) rfl ⟨_, rfl, ?_, ?_⟩
            · rw [show plusFin s t X Y b = .fin t (Y - X) b false from by have := HC.out; unfold plusFin; rw [if_neg hne, if_neg (by omega), if_neg (by omega)]]
              exact ⟨_, rfl, natAt_but ⟨p4, b4, L4, C4, rfl, hI4⟩ d0 (fun a ha => by repeat rw [set_but _ ha])⟩
            · exact ((((((hB3.q.drew).trans q4).set (far2 w) _).set (far2 w) _).set (far2 w) _).set (far2 w) _).set (far2 w) _
        · have ec : cmpV X Y = 0 := by unfold cmpV; rw [if_neg (by omega), if_pos hc]
          rw [ec]
          have HC : Hid _ := hc
          clear ec hc
          have d0 := hB3.r.c0
          have d1 := hB3.r.c1
          have d2 := hB3.r.c2
          have d3 := hB3.r.c3
          have d4 := hB3.r.c4
          have y0 := hB3.r.z 0
          have y1 := hB3.r.z 1
          have y2 := hB3.r.z 2
          have y3 := hB3.r.z 3
          have y4 := hB3.r.z 4
          go_wp2_with fail
          refine bodyPost_ret (v := .agg #[.int .i64 2, .bool false, .slice none 0 0, .int .i64 b, .bool false]) (by simp [results, Try.results29, go_sem, d0, d1, d2, d3, d4]) rfl ⟨_, rfl, ?_, ?_⟩
          · rw [show plusFin s t X Y b = .fin false 0 b false from by unfold plusFin; rw [if_neg hne, if_pos HC.out]]
            exact ⟨_, rfl, nat_nil _⟩
          · exact ((((hB3.q.set (far2 w) _).set (far2 w) _).set (far2 w) _).set (far2 w) _).set (far2 w) _
        · have ec : cmpV X Y = 1 := by unfold cmpV; rw [if_neg (by omega), if_neg (by omega)]
          rw [ec]
          have HC : Hid _ := hc
          clear ec hc
          go_wp2_with fail
          go_region_with (first | (go_at_call 61; refine (minus_any _ _ X Y _ (Q.nat (Q.refl _).drew J6.out) (Q.nat (Q.refl _).drew J7.out) (Nat.lt_of_le_of_lt (Nat.le_add_right _ _) hcap3.out) (Nat.le_of_lt HC.out)).mono ?_; rintro x w4 ⟨v4, rfl, hv4, q4⟩; obtain ⟨p4, b4, L4, C4, rfl, hI4⟩ := hv4; have n1 := q4.cell (p := ⟨w.heap.size, 1, none⟩) a1; have R := hB3.r.next ((Q.refl _).drew.trans q4); have d0 := R.c0; have d1 := R.c1; have d2 := R.c2; have d3 := R.c3; have d4 := R.c4; have y0 := R.z 0; have y1 := R.z 1; have y2 := R.z 2; have y3 := R.z 3; have y4 := R.z 4))
          all_goals
            go_wp2_with fail
            refine bodyPost_ret (v := .agg #[.int .i64 2, .bool s, .slice p4 L4 C4, .int .i64 b, .bool false]) (by simp [results, Try.results29, go_sem, d0, d1, d2, d3, d4]) rfl ⟨_, rfl, ?_, ?_⟩
            · rw [show plusFin s t X Y b = .fin s (X - Y) b false from by have := HC.out; unfold plusFin; rw [if_neg hne, if_neg (by omega), if_pos this]]
              exact ⟨_, rfl, natAt_but ⟨p4, b4, L4, C4, rfl, hI4⟩ d0 (fun a ha => by repeat rw [set_but _ ha])⟩
            · exact ((((((hB3.q.drew).trans q4).set (far2 w) _).set (far2 w) _).set (far2 w) _).set (far2 w) _).set (far2 w) _
      · have heq : s = t := by simpa using hst
        subst heq
        clear hst
        go_wp2_with fail
        go_region_with (first | (go_at_call 60; refine (plus_any _ _ X Y _ (Q.nat (Q.refl _).drew H6.out) (Q.nat (Q.refl _).drew H7.out) hcap3.out).mono ?_; rintro x w4 ⟨v4, rfl, hv4, q4⟩; obtain ⟨p4, b4, L4, C4, rfl, hI4⟩ := hv4; have n1 := q4.cell (p := ⟨w.heap.size, 1, none⟩) a1; have R := hB2.r.next ((Q.refl _).drew.trans q4); have d0 := R.c0; have d1 := R.c1; have d2 := R.c2; have d3 := R.c3; have d4 := R.c4; have y0 := R.z 0; have y1 := R.z 1; have y2 := R.z 2; have y3 := R.z 3; have y4 := R.z 4))
        all_goals
          go_wp2_with fail
          refine bodyPost_ret (v := .agg #[.int .i64 2, .bool s, .slice p4 L4 C4, .int .i64 b, .bool false]) (by simp [results, Try.results29, go_sem, d0, d1, d2, d3, d4]) rfl ⟨_, rfl, ?_, ?_⟩
          · rw [show plusFin s s X Y b = .fin s (X + Y) b false from by unfold plusFin; rw [if_pos rfl]]
            exact ⟨_, rfl, natAt_but ⟨p4, b4, L4, C4, rfl, hI4⟩ d0 (fun a ha => by repeat rw [set_but _ ha])⟩
          · exact ((((((hB2.q.drew).trans q4).set (far2 w) _).set (far2 w) _).set (far2 w) _).set (far2 w) _).set (far2 w) _

theorem plusnum_any (va vb : Value) (x y : RNum) (w : World) (hx : NumAt w va x) (hy : NumAt w vb y) (sx : small x) (sy : small y) :
    Calls Try.prog 29 #[va, vb] w fun e w' => ∃ v, e = .returned v ∧ NumAt w' v (plusR x y) ∧ Q w w' := by
  cases x using RNum.rec3 with
  | fin s n e m =>
    cases y using RNum.rec3 with
    | fin t k f g =>
      obtain ⟨nv, rfl, hn⟩ := hx
      obtain ⟨kv, rfl, hk⟩ := hy
      exact plus_fin s t m g nv kv n k e f w hn hk sx.1 sx.2.1 sx.2.2 sy.1 sy.2.1 sy.2.2
    | nan => exact plus_odd va vb _ _ w hx hy (fun _ _ _ _ _ _ _ _ h => by cases h.2)
    | inf t => exact plus_odd va vb _ _ w hx hy (fun _ _ _ _ _ _ _ _ h => by cases h.2)
  | nan => exact plus_odd va vb _ _ w hx hy (fun _ _ _ _ _ _ _ _ h => by cases h.1)
  | inf s => exact plus_odd va vb _ _ w hx hy (fun _ _ _ _ _ _ _ _ h => by cases h.1)
end Go.Proofs.Ytedafbbpcpebbaa
/- What the reference's Zero and TimesNum return: the exact product. -/
namespace Go.Proofs.Ytedafbbpcpebbaa
open Go.RowKit

def zeroB : RNum → Bool
  | ⟨some (.inr (_, n, _, m))⟩ => decide (n = 0) && !m
  | _ => false
/-- The cells that TimesNum reads and writes. -/
structure TBox (w wc : World) (va vb : Value) (e f : Int) : Prop where
  q : Q w wc
  a2 : wc.cell? ⟨w.heap.size, 2, none⟩ = some va
  a3 : wc.cell? ⟨w.heap.size, 3, none⟩ = some (.int .i64 e)
  b2 : wc.cell? ⟨w.heap.size + 1, 2, none⟩ = some vb
  b3 : wc.cell? ⟨w.heap.size + 1, 3, none⟩ = some (.int .i64 f)
  r : Res5 wc (w.heap.size + 1 + 1)
theorem TBox.next {w wc wd : World} {va vb : Value} {e f : Int} (h : TBox w wc va vb e f) (q : Q wc wd) : TBox w wd va vb e f :=
  ⟨h.q.trans q, q.cell h.a2, q.cell h.a3, q.cell h.b2, q.cell h.b3, h.r.next q⟩

/-- A product, digit by digit. -/
theorem prod_step (n k i : Nat) : n * (k % 4294967296 ^ (i + 1)) = n * (k % 4294967296 ^ i) + n * dig k i * 2 ^ (32 * i) := by
  unfold dig
  rw [Nat.pow_succ, Nat.mod_mul, Nat.mul_add, ← base_pow, Nat.mul_comm (4294967296 ^ i), ← Nat.mul_assoc]

/-- The exact product. -/
def timesR : RNum → RNum → RNum
  | ⟨none⟩, _ => .nan
  | ⟨some (.inl _)⟩, ⟨none⟩ => .nan
  | ⟨some (.inr _)⟩, ⟨none⟩ => .nan
  | ⟨some (.inl s)⟩, ⟨some (.inl t)⟩ => .inf (s != t)
  | ⟨some (.inl s)⟩, ⟨some (.inr (t, n, e, m))⟩ => if zeroB (.fin t n e m) = true then .nan else .inf (s != t)
  | ⟨some (.inr (s, n, e, m))⟩, ⟨some (.inl t)⟩ => if zeroB (.fin s n e m) = true then .nan else .inf (s != t)
  | ⟨some (.inr (s, n, e, _))⟩, ⟨some (.inr (t, k, f, _))⟩ => .fin (s != t) (n * k) (e + f) false

end Go.Proofs.Ytedafbbpcpebbaa
/- What the reference's DivNum returns of two numbers that are not 0: the quotient to 60 digits and more, and whether something is left. -/
namespace Go.Proofs.Ytedafbbpcpebbaa
open Go.RowKit

/-- By how much the dividend is shifted. -/
def shV (n k : Nat) : Nat := 60 + (blen k - blen n)
theorem div_start {A d : Nat} (hd : 0 < d) (h : blen d ≤ blen A) : A < d * 2 ^ (blen A - blen d + 1) := by
  have h1 := blen_lt A
  have h2 : 2 ^ (blen d - 1) ≤ d := by
    unfold blen
    rw [if_neg (by omega)]
    exact Nat.log2_self_le (by omega)
  have h3 : 0 < blen d := by unfold blen; rw [if_neg (by omega)]; omega
  have h4 : 2 ^ (blen d - 1) * 2 ^ (blen A - blen d + 1) ≤ d * 2 ^ (blen A - blen d + 1) := Nat.mul_le_mul_right _ h2
  rw [← Nat.pow_add, show blen d - 1 + (blen A - blen d + 1) = blen A by omega] at h4
  omega
theorem div_step {rest d g : Nat} (h : rest < d * 2 ^ (g + 1)) (hge : d * 2 ^ g ≤ rest) : rest - d * 2 ^ g < d * 2 ^ g := by
  rw [Nat.pow_succ, ← Nat.mul_assoc] at h
  omega
theorem div_end {A d q rest : Nat} (h : rest + d * q = A) (hr : rest < d * 2 ^ 0) : q = A / d ∧ rest = A % d := by
  rw [Nat.pow_zero, Nat.mul_one] at hr
  have hd : 0 < d := by omega
  constructor
  · rw [← h, Nat.add_mul_div_left _ _ hd, Nat.div_eq_of_lt hr, Nat.zero_add]
  · rw [← h, Nat.add_mul_mod_self_left, Nat.mod_eq_of_lt hr]
theorem blen_mul_pow {n : Nat} (h : n ≠ 0) (k : Nat) : blen (n * 2 ^ k) = blen n + k := by
  unfold blen
  rw [if_neg h, if_neg (Nat.mul_ne_zero h (by have := Nat.two_pow_pos k; omega)), log2_mul_pow h]
  omega

end Go.Proofs.Ytedafbbpcpebbaa
/- What the reference's DivNum returns where one of the two is no finite number, or is 0. -/
namespace Go.Proofs.Ytedafbbpcpebbaa
open Go.RowKit

end Go.Proofs.Ytedafbbpcpebbaa
