/- What the reference's Round, bits and num return of whatever number and sample. -/
import Derived.Test.YtgpkcclapkdndabRoundA
namespace Go.Proofs.Ytgpkcclapkdndab
open Go.RowKit

/-- The word that a number is rounded to. -/
def roundR : RNum → Nat
  | ⟨none⟩ => 2143289344
  | ⟨some (.inl s)⟩ => Ieee.single.word s 2139095040
  | ⟨some (.inr (s, n, e, m))⟩ => Ieee.single.word s (rungOf Ieee.single (2 * n + m.toNat) (e - 1))
/-- Numbers that Round takes. -/
def fits : RNum → Prop
  | ⟨some (.inr (_, n, e, m))⟩ => blen n ≤ 6000 ∧ -5000 ≤ e ∧ e ≤ 5000 ∧ (m = true → n ≠ 0 ∧ e + 1 ≤ lastOf Ieee.single n e)
  | _ => True
theorem rung_le (f : Ieee.Format) (m : Nat) (p : Int) : rungOf f m p ≤ f.infRung := by
  unfold rungOf; split
  · exact Nat.zero_le _
  · exact Nat.min_le_right _ _
theorem roundR_lt (x : RNum) : roundR x < 4294967296 := by
  cases x using RNum.rec3 with
  | nan => decide
  | inf s => exact word_lt (by decide)
  | fin s n e m =>
    refine word_lt ?_
    have := rung_le Ieee.single (2 * n + m.toNat) (e - 1)
    rw [single_inf] at this
    omega

set_option maxHeartbeats 4000000 in
set_option maxRecDepth 1000000 in
theorem round32_any (v : Value) (x : RNum) (w : World) (hx : NumAt w v x) (hf : fits x) :
    Calls Try.prog 59 #[.agg #[.int .i64 23, .int .i64 8], v] w fun e w' => e = .returned (.int .u64 (roundR x : Int)) ∧ Q w w' := by
  cases x using RNum.rec3 with
  | nan =>
    obtain ⟨b, e, m, rfl⟩ := hx
    go_enter Try.func59, Try.ntmps59
    go_wp2_with fail
    refine (fmade_any 23 8 2143289344 (by decide) _).mono ?_
    rintro e w1 ⟨rfl, q1⟩
    go_wp2_with fail
    go_ret
    exact ⟨rfl, (((Q.refl w).cells _ _).cells _ _).trans q1⟩
  | inf s =>
    obtain ⟨e, m, rfl⟩ := hx
    have w4 : IntKind.u64.wrap 2139095040 = 2139095040 := by decide
    have hor := or_word (neg := s) (r := 2139095040) (by decide)
    rw [show ((2139095040 : Nat) : Int) = 2139095040 from rfl] at hor
    obtain ⟨Wd, hWd⟩ : ∃ Wd : Nat, Wd = Ieee.single.word s 2139095040 := ⟨_, rfl⟩
    rw [← hWd] at hor
    have HWD : Hid _ := hWd
    clear hWd
    go_enter Try.func59, Try.ntmps59
    go_wp2_with fail
    go_region_held3 (fun w' => w'.cell? ⟨w.heap.size, 0, none⟩ = some (.int .i64 23) ∧ w'.cell? ⟨w.heap.size, 1, none⟩ = some (.int .i64 8) ∧ w'.cell? ⟨w.heap.size + 1, 1, none⟩ = some (.bool s)) (first | (simp [go_sem]; done) | go_keep) (first | (go_at_call 86; refine (sign_any 23 8 false s (by decide) _).mono ?_; rintro x v1 ⟨rfl, rfl⟩) | (go_at_call 62; refine (top_any 23 8 255 (by decide) _).mono ?_; rintro x v1 ⟨rfl, rfl⟩))
    all_goals
      go_wp2_with fail
      go_ret
      exact ⟨ret_int (by rw [HWD.out]; rfl), (((((Q.refl w).cells _ _).cells _ _).cells _ _).cells _ _).drew⟩
  | fin s n e m =>
    obtain ⟨nv, rfl, hn⟩ := hx
    exact round32_fin s nv n e m w hn hf.1 hf.2.1 hf.2.2.1 hf.2.2.2

/-- A number stays where a struct of another kind is written. -/
theorem natAt_but {w w' : World} {v : Value} {n rb : Nat} {z : Int} (h : NatAt w v n) (h0 : w.cell? ⟨rb, 0, none⟩ = some (.int .i64 z)) (ha : ∀ a : Addr, a.block ≠ rb → w'.cell? a = w.cell? a) : NatAt w' v n := by
  obtain ⟨p, b, L, C, e, hn⟩ := h
  refine ⟨p, b, L, C, e, hn.ptr, fun i hi => ?_, hn.hi, hn.lo, hn.len⟩
  have hne : b ≠ rb := fun g => by
    subst g
    have := hn.cell 0 (by omega)
    rw [h0] at this
    cases this
  rw [ha ⟨b, i, none⟩ hne]; exact hn.cell i hi
theorem numAt_but {w w' : World} {v : Value} {x : RNum} {rb : Nat} {z : Int} (h : NumAt w v x) (h0 : w.cell? ⟨rb, 0, none⟩ = some (.int .i64 z)) (ha : ∀ a : Addr, a.block ≠ rb → w'.cell? a = w.cell? a) : NumAt w' v x := by
  cases x using RNum.rec3 with
  | nan => exact h
  | inf s => exact h
  | fin s n e m =>
    obtain ⟨nv, e, hn⟩ := h
    exact ⟨nv, e, natAt_but hn h0 ha⟩
theorem set_but (w : World) {rb i : Nat} {x : Value} {a : Addr} (h : a.block ≠ rb) : (w.setCell ⟨rb, i, none⟩ x).cell? a = w.cell? a :=
  World.cell?_setCell_other _ _ _ _ (fun e => h (by rw [← e]))
/-- What every number is made of. -/
theorem NumAt.made {w : World} {v : Value} {x : RNum} (h : NumAt w v x) : ∃ k s p L C e m, v = .agg #[.int .i64 k, .bool s, .slice p L C, .int .i64 e, .bool m] := by
  cases x using RNum.rec3 with
  | nan => obtain ⟨b, e, m, rfl⟩ := h; exact ⟨_, _, _, _, _, _, _, rfl⟩
  | inf s => obtain ⟨e, m, rfl⟩ := h; exact ⟨_, _, _, _, _, _, _, rfl⟩
  | fin s n e m =>
    obtain ⟨nv, rfl, p, b, L, C, rfl, hn⟩ := h
    exact ⟨_, _, _, _, _, _, _, rfl⟩
/-- A block of five cells as a new struct has them, none of them frozen. -/
structure Res5 (w : World) (rb : Nat) : Prop where
  c0 : w.cell? ⟨rb, 0, none⟩ = some (.int .i64 0)
  c1 : w.cell? ⟨rb, 1, none⟩ = some (.bool false)
  c2 : w.cell? ⟨rb, 2, none⟩ = some (.slice none 0 0)
  c3 : w.cell? ⟨rb, 3, none⟩ = some (.int .i64 0)
  c4 : w.cell? ⟨rb, 4, none⟩ = some (.bool false)
  z : ∀ i, w.frozen? ⟨rb, i, none⟩ = false
theorem Res5.next {w w' : World} {rb : Nat} (h : Res5 w rb) (q : Q w w') : Res5 w' rb :=
  ⟨q.cell h.c0, q.cell h.c1, q.cell h.c2, q.cell h.c3, q.cell h.c4, fun i => by rw [q.2]; exact h.z i⟩

set_option maxHeartbeats 2000000 in
theorem num_any (b : Nat) (w : World) (hb : b < 4294967296) :
    Calls Try.prog 47 #[.int .u32 b] w fun e w' => ∃ v, e = .returned v ∧ NumAt w' v (numOf Ieee.single b) ∧ Q w w' := by
  go_enter Try.func47, Try.ntmps47
  go_wp2_with fail
  refine (f32_any _).mono ?_
  rintro e w1 ⟨rfl, q1⟩
  have hr1 : Res5 w1 w.heap.size := Res5.next ⟨by simp [go_sem], by simp [go_sem], by simp [go_sem], by simp [go_sem], by simp [go_sem], fun i => by simp [go_sem]⟩ q1
  have hq1 : Q w w1 := ((Q.refl w).cells _ _).trans q1
  clear q1
  go_wp2_with fail
  refine (of32_any b _ hb).mono ?_
  rintro e w2 ⟨v, rfl, hv, q2⟩
  have hr2 := hr1.next q2
  have hq2 := hq1.trans q2
  have c0 := hr2.c0
  have c1 := hr2.c1
  have c2 := hr2.c2
  have c3 := hr2.c3
  have c4 := hr2.c4
  have z0 := hr2.z 0
  have z1 := hr2.z 1
  have z2 := hr2.z 2
  have z3 := hr2.z 3
  have z4 := hr2.z 4
  clear hr1 hr2 hq1 q2
  obtain ⟨k, s, p, L, C, ee, m, rfl⟩ := hv.made
  have HV : Hid _ := hv
  clear hv
  go_wp2_with fail
  refine bodyPost_ret (v := .agg #[.int .i64 k, .bool s, .slice p L C, .int .i64 ee, .bool m]) (by simp [results, Try.results47, go_sem, c0, c1, c2, c3, c4]) rfl ⟨_, rfl, ?_, ?_⟩
  · refine numAt_but HV.out c0 (fun a ha => ?_)
    repeat rw [set_but _ ha]
  · exact ((((hq2.set (Nat.le_refl _) _).set (Nat.le_refl _) _).set (Nat.le_refl _) _).set (Nat.le_refl _) _).set (Nat.le_refl _) _

set_option maxHeartbeats 2000000 in
theorem rbits_any (v : Value) (x : RNum) (w : World) (hx : NumAt w v x) (hf : fits x) :
    Calls Try.prog 55 #[v] w fun e w' => e = .returned (.int .u32 (roundR x : Int)) ∧ Q w w' := by
  have hlt := roundR_lt x
  obtain ⟨R, hR⟩ : ∃ R, R = roundR x := ⟨_, rfl⟩
  have HR : Hid _ := hR
  rw [← hR] at hlt
  clear hR
  obtain ⟨k, s, p, L, C, ee, m, rfl⟩ := hx.made
  have HV : Hid _ := hx
  clear hx
  have hw : IntKind.u32.wrap (R : Int) = (R : Int) := by rw [IntKind.wrap_u32]; omega
  go_enter Try.func55, Try.ntmps55
  go_wp2_with fail
  go_region_held3 (fun w' => w'.cell? ⟨w.heap.size, 0, none⟩ = some (.int .i64 k) ∧ w'.cell? ⟨w.heap.size, 1, none⟩ = some (.bool s) ∧ w'.cell? ⟨w.heap.size, 2, none⟩ = some (.slice p L C) ∧ w'.cell? ⟨w.heap.size, 3, none⟩ = some (.int .i64 ee) ∧ w'.cell? ⟨w.heap.size, 4, none⟩ = some (.bool m)) (first | (simp [go_sem]; done) | (refine ⟨?_, ?_, ?_, ?_, ?_⟩ <;> assumption) | go_keep) (first | (go_at_call 22; refine (f32_any _).mono ?_; rintro e w1 ⟨rfl, q1⟩; have d0 : w1.cell? ⟨w.heap.size, 0, none⟩ = some (.int .i64 k) := q1.cell (by simp [go_sem]); have d1 : w1.cell? ⟨w.heap.size, 1, none⟩ = some (.bool s) := q1.cell (by simp [go_sem]); have d2 : w1.cell? ⟨w.heap.size, 2, none⟩ = some (.slice p L C) := q1.cell (by simp [go_sem]); have d3 : w1.cell? ⟨w.heap.size, 3, none⟩ = some (.int .i64 ee) := q1.cell (by simp [go_sem]); have d4 : w1.cell? ⟨w.heap.size, 4, none⟩ = some (.bool m) := q1.cell (by simp [go_sem])) | (go_at_call 59; refine (round32_any _ x _ (Q.num ((((Q.refl w).cells _ _).drew).trans q1) HV.out) hf).mono ?_; rintro e w2 ⟨rfl, q2⟩; have f0 := q2.cell d0; have f1 := q2.cell d1; have f2 := q2.cell d2; have f3 := q2.cell d3; have f4 := q2.cell d4; rw [← HR.out]))
  all_goals
    go_wp2_with fail
    go_ret
    exact ⟨ret_int (by rw [HR.out]), ((((Q.refl w).cells _ _).drew).trans q1).trans q2⟩
end Go.Proofs.Ytgpkcclapkdndab
