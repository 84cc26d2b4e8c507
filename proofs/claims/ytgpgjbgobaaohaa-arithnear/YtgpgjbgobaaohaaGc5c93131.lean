/- What the reference's Round returns at binary32: the nearest word. -/
import Derived.Test.YtgpgjbgobaaohaaGe18133a0
import Derived.Deep.Cut
import Derived.Deep.CutRange
import Derived.Deep.CutBlock
import Derived.Test.YtgpgjbgobaaohaaGae132719
namespace Go.Proofs.Ytgpgjbgobaaohaa
open Go.RowKit

/-- The cells that Round reads. -/
structure RBox (F E : Int) (w wc : World) (neg : Bool) (more : Bool) : Prop where
  q : Q w wc
  f0 : wc.cell? ⟨w.heap.size, 0, none⟩ = some (.int .i64 F)
  f1 : wc.cell? ⟨w.heap.size, 1, none⟩ = some (.int .i64 E)
  k1 : wc.cell? ⟨w.heap.size + 1, 1, none⟩ = some (.bool neg)
  k4 : wc.cell? ⟨w.heap.size + 1, 4, none⟩ = some (.bool more)
theorem RBox.next {F E : Int} {w wc wd : World} {neg more : Bool} (h : RBox F E w wc neg more) (q : Q wc wd) : RBox F E w wd neg more :=
  ⟨h.q.trans q, q.cell h.f0, q.cell h.f1, q.cell h.k1, q.cell h.k4⟩
theorem Q.drewN {a b : World} (h : Q a b) (n : Nat) : Q a (b.drewN n) := by
  induction n with
  | zero => exact h
  | succ n ih => exact ih.drew

theorem to_wrapped {n : Nat} {e fr least : Int} (hbl : blen n ≤ 6000) (e0 : -5000 ≤ e) (e1 : e ≤ 5000) (f0 : 0 ≤ fr) (f1 : fr ≤ 100) :
    (if IntKind.i64.wrap (IntKind.i64.wrap (↑(blen n) + e) - IntKind.i64.wrap (fr + 1)) < least then least else IntKind.i64.wrap (IntKind.i64.wrap (↑(blen n) + e) - IntKind.i64.wrap (fr + 1))) = toV n e fr least := by
  have a1 : IntKind.i64.wrap ((blen n : Int) + e) = (blen n : Int) + e := by rw [IntKind.wrap_i64]; omega
  have a2 : IntKind.i64.wrap (fr + 1) = fr + 1 := by rw [IntKind.wrap_i64]; omega
  have a3 : IntKind.i64.wrap ((blen n : Int) + e - (fr + 1)) = (blen n : Int) + e - (fr + 1) := by rw [IntKind.wrap_i64]; omega
  rw [a1, a2, a3]
  unfold toV
  split <;> omega

theorem restB_mono {a k d : Nat} (h : k ≤ d) (hk : restB a k = true) : restB a d = true := by
  induction d with
  | zero => rw [show k = 0 by omega] at hk; exact hk
  | succ d ih =>
    by_cases e : k = d + 1
    · rw [← e]; exact hk
    · exact restB_t (ih (by omega))
theorem below_more {more : Bool} {n k d : Nat} (h : k < d) (hk : (more || restB n k) = true) : (more || restB n k) = (more || restB n d) := by
  rw [hk]
  cases more
  · rw [Bool.false_or] at hk ⊢; exact (restB_mono (by omega) hk).symm
  · rfl
theorem kept_odd {n d : Nat} {more : Bool} (h1 : bitV n d = 1) (h2 : more = false) (h3 : restB n d = false) (hb : bitV (n / 2 ^ (d + 1)) 0 ≤ 1) :
    n / 2 ^ (d + 1) + ((bitV (n / 2 ^ (d + 1)) 0 : Int) == 1).toNat = n / 2 ^ (d + 1) + if bitV n (d + 1 - 1) = 1 ∧ (more.toNat = 1 ∨ n % 2 ^ (d + 1 - 1) ≠ 0 ∨ bitV (n / 2 ^ (d + 1)) 0 = 1) then 1 else 0 := by
  rw [show d + 1 - 1 = d by omega, h2]
  have h4 : n % 2 ^ d = 0 := by unfold restB at h3; simpa using h3
  rcases (by omega : bitV (n / 2 ^ (d + 1)) 0 = 0 ∨ bitV (n / 2 ^ (d + 1)) 0 = 1) with g | g
  · rw [g, if_neg (by simp [h4])]; rfl
  · rw [g, if_pos ⟨h1, Or.inr (Or.inr rfl)⟩]; rfl
theorem kept_below {n d : Nat} {more : Bool} (h1 : bitV n d = 1) (h2 : (more || restB n d) = true) :
    n / 2 ^ (d + 1) + true.toNat = n / 2 ^ (d + 1) + if bitV n (d + 1 - 1) = 1 ∧ (more.toNat = 1 ∨ n % 2 ^ (d + 1 - 1) ≠ 0 ∨ bitV (n / 2 ^ (d + 1)) 0 = 1) then 1 else 0 := by
  rw [show d + 1 - 1 = d by omega, if_pos]
  · rfl
  · refine ⟨h1, ?_⟩
    cases more
    · right; left
      unfold restB at h2
      simpa using h2
    · left; rfl

end Go.Proofs.Ytgpgjbgobaaohaa
/- What the reference's Round, bits and num return of whatever number and sample. -/
namespace Go.Proofs.Ytgpgjbgobaaohaa
open Go.RowKit

/-- The word that a number is rounded to. -/
def roundR : RNum → Nat
  | ⟨none⟩ => 2143289344
  | ⟨some (.inl s)⟩ => Ieee.single.word s 2139095040
  | ⟨some (.inr (s, n, e, m))⟩ => Ieee.single.word s (rungOf Ieee.single (2 * n + m.toNat) (e - 1))
/-- Numbers that Round takes. -/
def fits : RNum → Prop
  | ⟨some (.inr (_, n, e, m))⟩ => blen n ≤ 6000 ∧ -5000 ≤ e ∧ e ≤ 5000 ∧ (m = true → n ≠ 0 ∧ e + 1 ≤ lastOf Ieee.single n e)
  | _ => True
theorem rung_le (f : Ieee.Format) (m : Nat) (p : Int) : rungOf f m p ≤ f.infRung := by
  unfold rungOf; split
  · exact Nat.zero_le _
  · exact Nat.min_le_right _ _
theorem roundR_lt (x : RNum) : roundR x < 4294967296 := by
  cases x using RNum.rec3 with
  | nan => decide
  | inf s => exact word_lt (by decide)
  | fin s n e m =>
    refine word_lt ?_
    have := rung_le Ieee.single (2 * n + m.toNat) (e - 1)
    rw [single_inf] at this
    omega

/-- A number stays where a struct of another kind is written. -/
theorem natAt_but {w w' : World} {v : Value} {n rb : Nat} {z : Int} (h : NatAt w v n) (h0 : w.cell? ⟨rb, 0, none⟩ = some (.int .i64 z)) (ha : ∀ a : Addr, a.block ≠ rb → w'.cell? a = w.cell? a) : NatAt w' v n := by
  obtain ⟨p, b, L, C, e, hn⟩ := h
  refine ⟨p, b, L, C, e, hn.ptr, fun i hi => ?_, hn.hi, hn.lo, hn.len⟩
  have hne : b ≠ rb := fun g => by
    subst g
    have := hn.cell 0 (by omega)
    rw [h0] at this
    cases this
  rw [ha ⟨b, i, none⟩ hne]; exact hn.cell i hi
theorem numAt_but {w w' : World} {v : Value} {x : RNum} {rb : Nat} {z : Int} (h : NumAt w v x) (h0 : w.cell? ⟨rb, 0, none⟩ = some (.int .i64 z)) (ha : ∀ a : Addr, a.block ≠ rb → w'.cell? a = w.cell? a) : NumAt w' v x := by
  cases x using RNum.rec3 with
  | nan => exact h
  | inf s => exact h
  | fin s n e m =>
    obtain ⟨nv, e, hn⟩ := h
    exact ⟨nv, e, natAt_but hn h0 ha⟩
theorem set_but (w : World) {rb i : Nat} {x : Value} {a : Addr} (h : a.block ≠ rb) : (w.setCell ⟨rb, i, none⟩ x).cell? a = w.cell? a :=
  World.cell?_setCell_other _ _ _ _ (fun e => h (by rw [← e]))
/-- What every number is made of. -/
theorem NumAt.made {w : World} {v : Value} {x : RNum} (h : NumAt w v x) : ∃ k s p L C e m, v = .agg #[.int .i64 k, .bool s, .slice p L C, .int .i64 e, .bool m] := by
  cases x using RNum.rec3 with
  | nan => obtain ⟨b, e, m, rfl⟩ := h; exact ⟨_, _, _, _, _, _, _, rfl⟩
  | inf s => obtain ⟨e, m, rfl⟩ := h; exact ⟨_, _, _, _, _, _, _, rfl⟩
  | fin s n e m =>
    obtain ⟨nv, rfl, p, b, L, C, rfl, hn⟩ := h
    exact ⟨_, _, _, _, _, _, _, rfl⟩
/-- A block of five cells as a new struct has them, none of them frozen. -/
structure Res5 (w : World) (rb : Nat) : Prop where
  c0 : w.cell? ⟨rb, 0, none⟩ = some (.int .i64 0)
  c1 : w.cell? ⟨rb, 1, none⟩ = some (.bool false)
  c2 : w.cell? ⟨rb, 2, none⟩ = some (.slice none 0 0)
  c3 : w.cell? ⟨rb, 3, none⟩ = some (.int .i64 0)
  c4 : w.cell? ⟨rb, 4, none⟩ = some (.bool false)
  z : ∀ i, w.frozen? ⟨rb, i, none⟩ = false
theorem Res5.next {w w' : World} {rb : Nat} (h : Res5 w rb) (q : Q w w') : Res5 w' rb :=
  ⟨q.cell h.c0, q.cell h.c1, q.cell h.c2, q.cell h.c3, q.cell h.c4, fun i => by rw [q.2]; exact h.z i⟩

end Go.Proofs.Ytgpgjbgobaaohaa
/- What the reference's PlusNum returns: the exact sum. -/
namespace Go.Proofs.Ytgpgjbgobaaohaa
open Go.RowKit

/-- The exact sum. -/
def plusFin (s t : Bool) (x y : Nat) (b : Int) : RNum :=
  if s = t then .fin s (x + y) b false
  else if x = y then .fin false 0 b false
  else if y < x then .fin s (x - y) b false
  else .fin t (y - x) b false
def plusR : RNum → RNum → RNum
  | ⟨none⟩, _ => .nan
  | ⟨some (.inl _)⟩, ⟨none⟩ => .nan
  | ⟨some (.inr _)⟩, ⟨none⟩ => .nan
  | ⟨some (.inl s)⟩, ⟨some (.inl t)⟩ => if s = t then .inf s else .nan
  | ⟨some (.inl s)⟩, ⟨some (.inr _)⟩ => .inf s
  | ⟨some (.inr _)⟩, ⟨some (.inl t)⟩ => .inf t
  | ⟨some (.inr (s, n, e, _))⟩, ⟨some (.inr (t, m, f, _))⟩ => plusFin s t (n * 2 ^ (e - min e f).toNat) (m * 2 ^ (f - min e f).toNat) (min e f)
/-- Numbers that PlusNum takes. -/
def small : RNum → Prop
  | ⟨some (.inr (_, n, e, _))⟩ => blen n ≤ 2000 ∧ -2000 ≤ e ∧ e ≤ 2000
  | _ => True

/-- The cells that PlusNum reads and writes behind the shifts. -/
structure PBox (w wc : World) (s t : Bool) : Prop where
  q : Q w wc
  a1 : wc.cell? ⟨w.heap.size, 1, none⟩ = some (.bool s)
  b1 : wc.cell? ⟨w.heap.size + 1, 1, none⟩ = some (.bool t)
  r : Res5 wc (w.heap.size + 1 + 1)
theorem PBox.next {w wc wd : World} {s t : Bool} (h : PBox w wc s t) (q : Q wc wd) : PBox w wd s t :=
  ⟨h.q.trans q, q.cell h.a1, q.cell h.b1, h.r.next q⟩

set_option maxHeartbeats 4000000 in
set_option maxRecDepth 1000000 in
theorem plus_odd (va vb : Value) (x y : RNum) (w : World) (hx : NumAt w va x) (hy : NumAt w vb y) (hne : ∀ s n e m t k f g, ¬ (x = .fin s n e m ∧ y = .fin t k f g)) :
    Calls Try.prog 10 #[va, vb] w fun e w' => ∃ v, e = .returned v ∧ NumAt w' v (plusR x y) ∧ Q w w' := by
  cases x using RNum.rec3 with
  | nan =>
    obtain ⟨b, e, m, rfl⟩ := hx
    obtain ⟨k, s, p, L, C, ee, mm, rfl⟩ := hy.made
    clear hy hne
    go_enter Try.func10, Try.ntmps10
    go_wp2_with fail
    refine bodyPost_ret (v := .agg #[.int .i64 0, .bool false, .slice none 0 0, .int .i64 0, .bool false]) (by simp [results, Try.results10, go_sem]) rfl ⟨_, rfl, ⟨_, _, _, rfl⟩, ?_⟩
    exact (((Q.refl w).cells _ _).cells _ _).cells _ _
  | inf s =>
    obtain ⟨e, m, rfl⟩ := hx
    cases y using RNum.rec3 with
    | nan =>
      obtain ⟨b, e', m', rfl⟩ := hy
      go_enter Try.func10, Try.ntmps10
      go_wp2_with fail
      refine bodyPost_ret (v := .agg #[.int .i64 0, .bool false, .slice none 0 0, .int .i64 0, .bool false]) (by simp [results, Try.results10, go_sem]) rfl ⟨_, rfl, ⟨_, _, _, rfl⟩, ?_⟩
      exact (((Q.refl w).cells _ _).cells _ _).cells _ _
    | inf t =>
      obtain ⟨e', m', rfl⟩ := hy
      clear hne
      cases s <;> cases t
      · go_enter Try.func10, Try.ntmps10
        go_wp2_with fail
        refine bodyPost_ret (v := .agg #[.int .i64 1, .bool false, .slice none 0 0, .int .i64 e, .bool m]) (by simp [results, Try.results10, go_sem]) rfl ⟨_, rfl, ⟨_, _, rfl⟩, ?_⟩
        exact (((Q.refl w).cells _ _).cells _ _).cells _ _
      · go_enter Try.func10, Try.ntmps10
        go_wp2_with fail
        refine bodyPost_ret (v := .agg #[.int .i64 0, .bool false, .slice none 0 0, .int .i64 0, .bool false]) (by simp [results, Try.results10, go_sem]) rfl ⟨_, rfl, ⟨_, _, _, rfl⟩, ?_⟩
        exact (((Q.refl w).cells _ _).cells _ _).cells _ _
      · go_enter Try.func10, Try.ntmps10
        go_wp2_with fail
        refine bodyPost_ret (v := .agg #[.int .i64 0, .bool false, .slice none 0 0, .int .i64 0, .bool false]) (by simp [results, Try.results10, go_sem]) rfl ⟨_, rfl, ⟨_, _, _, rfl⟩, ?_⟩
        exact (((Q.refl w).cells _ _).cells _ _).cells _ _
      · go_enter Try.func10, Try.ntmps10
        go_wp2_with fail
        refine bodyPost_ret (v := .agg #[.int .i64 1, .bool true, .slice none 0 0, .int .i64 e, .bool m]) (by simp [results, Try.results10, go_sem]) rfl ⟨_, rfl, ⟨_, _, rfl⟩, ?_⟩
        exact (((Q.refl w).cells _ _).cells _ _).cells _ _
    | fin t k f g =>
      obtain ⟨nv, rfl, p, b, L, C, rfl, hn⟩ := hy
      clear hne
      go_enter Try.func10, Try.ntmps10
      go_wp2_with fail
      refine bodyPost_ret (v := .agg #[.int .i64 1, .bool s, .slice none 0 0, .int .i64 e, .bool m]) (by simp [results, Try.results10, go_sem]) rfl ⟨_, rfl, ⟨_, _, rfl⟩, ?_⟩
      exact (((Q.refl w).cells _ _).cells _ _).cells _ _
  | fin s n e m =>
    obtain ⟨nv, rfl, p, b, L, C, rfl, hn⟩ := hx
    cases y using RNum.rec3 with
    | nan =>
      obtain ⟨b', e', m', rfl⟩ := hy
      clear hne
      go_enter Try.func10, Try.ntmps10
      go_wp2_with fail
      refine bodyPost_ret (v := .agg #[.int .i64 0, .bool false, .slice none 0 0, .int .i64 0, .bool false]) (by simp [results, Try.results10, go_sem]) rfl ⟨_, rfl, ⟨_, _, _, rfl⟩, ?_⟩
      exact (((Q.refl w).cells _ _).cells _ _).cells _ _
    | inf t =>
      obtain ⟨e', m', rfl⟩ := hy
      clear hne
      go_enter Try.func10, Try.ntmps10
      go_wp2_with fail
      refine bodyPost_ret (v := .agg #[.int .i64 1, .bool t, .slice none 0 0, .int .i64 e', .bool m']) (by simp [results, Try.results10, go_sem]) rfl ⟨_, rfl, ⟨_, _, rfl⟩, ?_⟩
      exact (((Q.refl w).cells _ _).cells _ _).cells _ _
    | fin t k f g => exact absurd ⟨rfl, rfl⟩ (hne s n e m t k f g)

theorem far2 (w : World) : w.heap.size ≤ w.heap.size + 1 + 1 := by omega
theorem far3 (w : World) : (⟨w.heap.size, 1, none⟩ : Addr).block ≠ w.heap.size + 1 + 1 := by show w.heap.size ≠ _; omega
theorem far4 (w : World) : (⟨w.heap.size + 1, 1, none⟩ : Addr).block ≠ w.heap.size + 1 + 1 := by show w.heap.size + 1 ≠ _; omega
theorem add_cap {x y : Nat} (hx : x < 2 ^ 6000) (hy : y < 2 ^ 6000) : x + y < cap := by
  obtain ⟨j, hj⟩ : ∃ j, j = 6000 := ⟨_, rfl⟩
  rw [← hj] at hx hy
  exact lt_cap (k := j + 1) (by rw [Nat.pow_succ]; omega) (by omega)
theorem shifted_lt {k : Nat} (n d : Nat) (h : blen n + d ≤ k) : n * 2 ^ d < 2 ^ k := by
  have h1 : n * 2 ^ d < 2 ^ blen n * 2 ^ d := Nat.mul_lt_mul_of_pos_right (blen_lt n) (Nat.two_pow_pos d)
  rw [← Nat.pow_add] at h1
  exact Nat.lt_of_lt_of_le h1 (Nat.pow_le_pow_right (by decide) h)

set_option maxHeartbeats 8000000 in
set_option maxRecDepth 1000000 in
theorem plus_fin (s t m m' : Bool) (va vb : Value) (n k : Nat) (e f : Int) (w : World) (hn : NatAt w va n) (hk : NatAt w vb k)
    (n1 : blen n ≤ 2000) (e0 : -2000 ≤ e) (e1 : e ≤ 2000) (k1 : blen k ≤ 2000) (f0 : -2000 ≤ f) (f1 : f ≤ 2000) :
    Calls Try.prog 10 #[.agg #[.int .i64 2, .bool s, va, .int .i64 e, .bool m], .agg #[.int .i64 2, .bool t, vb, .int .i64 f, .bool m']] w
      fun x w' => ∃ v, x = .returned v ∧ NumAt w' v (plusFin s t (n * 2 ^ (e - min e f).toNat) (k * 2 ^ (f - min e f).toNat) (min e f)) ∧ Q w w' := by
  obtain ⟨b, hb⟩ : ∃ b, b = min e f := ⟨_, rfl⟩
  rw [← hb]
  obtain ⟨da, hda⟩ : ∃ da : Nat, da = (e - b).toNat := ⟨_, rfl⟩
  obtain ⟨db, hdb⟩ : ∃ db : Nat, db = (f - b).toNat := ⟨_, rfl⟩
  rw [← hda, ← hdb]
  have ea : e - b = (da : Int) := by omega
  have eb : f - b = (db : Int) := by omega
  have b0 : -2000 ≤ b := by omega
  have b1 : b ≤ 2000 := by omega
  have hda4 : da ≤ 4000 := by omega
  have hdb4 : db ≤ 4000 := by omega
  have wa : IntKind.i64.wrap (da : Int) = (da : Int) := by rw [IntKind.wrap_i64]; omega
  have wb : IntKind.i64.wrap (db : Int) = (db : Int) := by rw [IntKind.wrap_i64]; omega
  have hcx := shifted_lt (k := 6000) n da (by omega)
  have hcy := shifted_lt (k := 6000) k db (by omega)
  obtain ⟨X, hX⟩ : ∃ X, X = n * 2 ^ da := ⟨_, rfl⟩
  obtain ⟨Y, hY⟩ : ∃ Y, Y = k * 2 ^ db := ⟨_, rfl⟩
  have hcap1 : Hid (n * 2 ^ da < cap) := lt_cap hcx (by decide)
  have hcap2 : Hid (k * 2 ^ db < cap) := lt_cap hcy (by decide)
  have hcap3 : Hid (X + Y < cap) := by
    show X + Y < cap
    rw [hX, hY]
    exact add_cap hcx hcy
  rw [← hX, ← hY]
  have HX : Hid _ := hX
  have HY : Hid _ := hY
  have HBM : Hid _ := hb
  clear hcx hcy hX hY hda hdb
  obtain ⟨pa, ba, La, Ca, rfl, hnI⟩ := hn
  obtain ⟨pb, bb, Lb, Cb, rfl, hkI⟩ := hk
  have HNA : Hid (NatAt w (.slice pa La Ca) n) := ⟨pa, ba, La, Ca, rfl, hnI⟩
  have HKA : Hid (NatAt w (.slice pb Lb Cb) k) := ⟨pb, bb, Lb, Cb, rfl, hkI⟩
  clear hnI hkI hb
  go_enter Try.func10, Try.ntmps10
  go_upto_region 7 with fail
  go_cut [5] from 9 (fun s5 wc => s5 = .int .i64 b ∧ wc.cell? ⟨w.heap.size, 2, none⟩ = some (.slice pa La Ca) ∧ wc.cell? ⟨w.heap.size, 3, none⟩ = some (.int .i64 e) ∧ wc.cell? ⟨w.heap.size + 1, 2, none⟩ = some (.slice pb Lb Cb) ∧ wc.cell? ⟨w.heap.size + 1, 3, none⟩ = some (.int .i64 f) ∧ PBox w wc s t)
  case first =>
    go_wp2_with fail
    all_goals
      go_meet
      case rel =>
        go_light
        refine ⟨congrArg (Value.int .i64) (by have := HBM.out; omega), by simp [go_sem], by simp [go_sem], by simp [go_sem], by simp [go_sem], (((Q.refl w).cells _ _).cells _ _).cells _ _, by simp [go_sem], by simp [go_sem], ⟨by simp [go_sem], by simp [go_sem], by simp [go_sem], by simp [go_sem], by simp [go_sem], fun i => by simp [go_sem]⟩⟩
  case rest =>
    obtain ⟨rfl, a2, a3, c2, c3, hB⟩ := hcut
    go_upto_region 8 with fail
    go_cut [6, 7] from 9 (fun s6 s7 wd => NatAt wd s6 X ∧ NatAt wd s7 Y ∧ PBox w wd s t)
    case first =>
      go_region_held3 (fun w' => w'.cell? ⟨w.heap.size, 2, none⟩ = some (.slice pa La Ca) ∧ w'.cell? ⟨w.heap.size, 3, none⟩ = some (.int .i64 e) ∧ w'.cell? ⟨w.heap.size + 1, 2, none⟩ = some (.slice pb Lb Cb) ∧ w'.cell? ⟨w.heap.size + 1, 3, none⟩ = some (.int .i64 f)) (first | (refine ⟨?_, ?_, ?_, ?_⟩ <;> assumption) | (simp [a2, a3, c2, c3]; done) | go_keep) (first | (go_at_call_of 37 (Value.slice pa La Ca); refine (up_any _ n da _ (Q.nat hB.q.drew HNA.out) hcap1.out).mono ?_; rintro x w1 ⟨v1, rfl, hv1, q1⟩; have g2 := q1.cell (p := ⟨w.heap.size, 2, none⟩) a2; have g3 := q1.cell (p := ⟨w.heap.size, 3, none⟩) a3; have g4 := q1.cell (p := ⟨w.heap.size + 1, 2, none⟩) c2; have g5 := q1.cell (p := ⟨w.heap.size + 1, 3, none⟩) c3) | (go_at_call_of 37 (Value.slice pb Lb Cb); refine (up_any _ k db _ (Q.nat (hB.q.drew.trans q1) HKA.out) hcap2.out).mono ?_; rintro x w2 ⟨v2, rfl, hv2, q2⟩; have h2 := q2.cell g2; have h3 := q2.cell g3; have h4 := q2.cell g4; have h5 := q2.cell g5))
      all_goals
        go_wp2_with fail
        go_meet
        case rel =>
          go_light
          exact ⟨by rw [HX.out]; exact q2.nat hv1, by rw [HY.out]; exact hv2, ((hB.next (Q.refl _).drew).next q1).next q2⟩
    case rest =>
      obtain ⟨h6, h7, hB2⟩ := hcut
      have a1 := hB2.a1
      have b1 := hB2.b1
      have H6 : Hid _ := h6
      have H7 : Hid _ := h7
      clear ea eb wa wb a2 a3 c2 c3 h6 h7
      cases hst : (s == t)
      · have hne : s ≠ t := by simpa using hst
        go_wp2_with fail
        refine (compare_any _ _ X Y _ H6.out H7.out).mono ?_
        rintro x w3 ⟨rfl, q3⟩
        have hB3 := hB2.next q3
        have a1 := hB3.a1
        have b1 := hB3.b1
        have J6 : Hid _ := q3.nat H6.out
        have J7 : Hid _ := q3.nat H7.out
        clear hB2
        rcases Nat.lt_trichotomy X Y with hc | hc | hc
        · have ec : cmpV X Y = -1 := by unfold cmpV; rw [if_pos hc]
          rw [ec]
          have HC : Hid _ := hc
          clear ec hc
          go_wp2_with fail
          go_region_with (first | (go_at_call 40; refine (minus_any _ _ Y X _ (Q.nat (Q.refl _).drew J7.out) (Q.nat (Q.refl _).drew J6.out) (Nat.lt_of_le_of_lt (Nat.le_add_left _ _) hcap3.out) (Nat.le_of_lt HC.out)).mono ?_; rintro x w4 ⟨v4, rfl, hv4, q4⟩; obtain ⟨p4, b4, L4, C4, rfl, hI4⟩ := hv4; have n1 := q4.cell (p := ⟨w.heap.size + 1, 1, none⟩) b1; have R := hB3.r.next ((Q.refl _).drew.trans q4); have d0 := R.c0; have d1 := R.c1; have d2 := R.c2; have d3 := R.c3; have d4 := R.c4; have y0 := R.z 0; have y1 := R.z 1; have y2 := R.z 2; have y3 := R.z 3; have y4 := R.z 4))
          all_goals
            go_wp2_with fail
            refine bodyPost_ret (v := .agg #[.int .i64 2, .bool t, .slice p4 L4 C4, .int .i64 b, .bool false]) (by simp [results, Try.results10, go_sem, d0, d1, d2, d3, d4]) rfl ⟨_, rfl, ?_, ?_⟩
            · rw [show plusFin s t X Y b = .fin t (Y - X) b false from by have := HC.out; unfold plusFin; rw [if_neg hne, if_neg (by omega), if_neg (by omega)]]
              exact ⟨_, rfl, natAt_but ⟨p4, b4, L4, C4, rfl, hI4⟩ d0 (fun a ha => by repeat rw [set_but _ ha])⟩
            · exact ((((((hB3.q.drew).trans q4).set (far2 w) _).set (far2 w) _).set (far2 w) _).set (far2 w) _).set (far2 w) _
        · have ec : cmpV X Y = 0 := by unfold cmpV; rw [if_neg (by omega), if_pos hc]
          rw [ec]
          have HC : Hid _ := hc
          clear ec hc
          have d0 := hB3.r.c0
          have d1 := hB3.r.c1
          have d2 := hB3.r.c2
          have d3 := hB3.r.c3
          have d4 := hB3.r.c4
          have y0 := hB3.r.z 0
          have y1 := hB3.r.z 1
          have y2 := hB3.r.z 2
          have y3 := hB3.r.z 3
          have y4 := hB3.r.z 4
          go_wp2_with fail
          refine bodyPost_ret (v := .agg #[.int .i64 2, .bool false, .slice none 0 0, .int .i64 b, .bool false]) (by simp [results, Try.results10, go_sem, d0, d1, d2, d3, d4]) rfl ⟨_, rfl, ?_, ?_⟩
          · rw [show plusFin s t X Y b = .fin false 0 b false from by unfold plusFin; rw [if_neg hne, if_pos HC.out]]
            exact ⟨_, rfl, nat_nil _⟩
          · exact ((((hB3.q.set (far2 w) _).set (far2 w) _).set (far2 w) _).set (far2 w) _).set (far2 w) _
        · have ec : cmpV X Y = 1 := by unfold cmpV; rw [if_neg (by omega), if_neg (by omega)]
          rw [ec]
          have HC : Hid _ := hc
          clear ec hc
          go_wp2_with fail
          go_region_with (first | (go_at_call 40; refine (minus_any _ _ X Y _ (Q.nat (Q.refl _).drew J6.out) (Q.nat (Q.refl _).drew J7.out) (Nat.lt_of_le_of_lt (Nat.le_add_right _ _) hcap3.out) (Nat.le_of_lt HC.out)).mono ?_; rintro x w4 ⟨v4, rfl, hv4, q4⟩; obtain ⟨p4, b4, L4, C4, rfl, hI4⟩ := hv4; have n1 := q4.cell (p := ⟨w.heap.size, 1, none⟩) a1; have R := hB3.r.next ((Q.refl _).drew.trans q4); have d0 := R.c0; have d1 := R.c1; have d2 := R.c2; have d3 := R.c3; have d4 := R.c4; have y0 := R.z 0; have y1 := R.z 1; have y2 := R.z 2; have y3 := R.z 3; have y4 := R.z 4))
          all_goals
            go_wp2_with fail
            refine bodyPost_ret (v := .agg #[.int .i64 2, .bool s, .slice p4 L4 C4, .int .i64 b, .bool false]) (by simp [results, Try.results10, go_sem, d0, d1, d2, d3, d4]) rfl ⟨_, rfl, ?_, ?_⟩
            · rw [show plusFin s t X Y b = .fin s (X - Y) b false from by have := HC.out; unfold plusFin; rw [if_neg hne, if_neg (by omega), if_pos this]]
              exact ⟨_, rfl, natAt_but ⟨p4, b4, L4, C4, rfl, hI4⟩ d0 (fun a ha => by repeat rw [set_but _ ha])⟩
            · exact ((((((hB3.q.drew).trans q4).set (far2 w) _).set (far2 w) _).set (far2 w) _).set (far2 w) _).set (far2 w) _
      · have heq : s = t := by simpa using hst
        subst heq
        clear hst
        go_wp2_with fail
        go_region_with (first | (go_at_call 38; refine (plus_any _ _ X Y _ (Q.nat (Q.refl _).drew H6.out) (Q.nat (Q.refl _).drew H7.out) hcap3.out).mono ?_; rintro x w4 ⟨v4, rfl, hv4, q4⟩; obtain ⟨p4, b4, L4, C4, rfl, hI4⟩ := hv4; have n1 := q4.cell (p := ⟨w.heap.size, 1, none⟩) a1; have R := hB2.r.next ((Q.refl _).drew.trans q4); have d0 := R.c0; have d1 := R.c1; have d2 := R.c2; have d3 := R.c3; have d4 := R.c4; have y0 := R.z 0; have y1 := R.z 1; have y2 := R.z 2; have y3 := R.z 3; have y4 := R.z 4))
        all_goals
          go_wp2_with fail
          refine bodyPost_ret (v := .agg #[.int .i64 2, .bool s, .slice p4 L4 C4, .int .i64 b, .bool false]) (by simp [results, Try.results10, go_sem, d0, d1, d2, d3, d4]) rfl ⟨_, rfl, ?_, ?_⟩
          · rw [show plusFin s s X Y b = .fin s (X + Y) b false from by unfold plusFin; rw [if_pos rfl]]
            exact ⟨_, rfl, natAt_but ⟨p4, b4, L4, C4, rfl, hI4⟩ d0 (fun a ha => by repeat rw [set_but _ ha])⟩
          · exact ((((((hB2.q.drew).trans q4).set (far2 w) _).set (far2 w) _).set (far2 w) _).set (far2 w) _).set (far2 w) _

theorem plusnum_any (va vb : Value) (x y : RNum) (w : World) (hx : NumAt w va x) (hy : NumAt w vb y) (sx : small x) (sy : small y) :
    Calls Try.prog 10 #[va, vb] w fun e w' => ∃ v, e = .returned v ∧ NumAt w' v (plusR x y) ∧ Q w w' := by
  cases x using RNum.rec3 with
  | fin s n e m =>
    cases y using RNum.rec3 with
    | fin t k f g =>
      obtain ⟨nv, rfl, hn⟩ := hx
      obtain ⟨kv, rfl, hk⟩ := hy
      exact plus_fin s t m g nv kv n k e f w hn hk sx.1 sx.2.1 sx.2.2 sy.1 sy.2.1 sy.2.2
    | nan => exact plus_odd va vb _ _ w hx hy (fun _ _ _ _ _ _ _ _ h => by cases h.2)
    | inf t => exact plus_odd va vb _ _ w hx hy (fun _ _ _ _ _ _ _ _ h => by cases h.2)
  | nan => exact plus_odd va vb _ _ w hx hy (fun _ _ _ _ _ _ _ _ h => by cases h.1)
  | inf s => exact plus_odd va vb _ _ w hx hy (fun _ _ _ _ _ _ _ _ h => by cases h.1)
end Go.Proofs.Ytgpgjbgobaaohaa
/- Plain facts: a sample times a power of two by way of binary64. -/
namespace Go.Proofs.Ytgpgjbgobaaohaa
open Go.RowKit

theorem toldD_num (s : Bool) (m : Nat) (p : Int) : toldD (some (.number s m p)) = Ieee.single.word s (rungOf Ieee.single m p) := nearest_rung _ _ _ _
theorem rung_big {m : Nat} {p : Int} (hm : m ≠ 0) (hp : 128 ≤ p) : rungOf Ieee.single m p = 2139095040 := by
  have h1 : rungOf Ieee.single 1 128 ≤ rungOf Ieee.single (m * 2 ^ (p - 128).toNat) 128 := rung_mono _ _ (Nat.mul_pos (by omega) (Nat.two_pow_pos _))
  rw [rung_scale, show (128 : Int) + (((p - 128).toNat : Nat) : Int) = p by omega] at h1
  have h2 : rungOf Ieee.single 1 128 = 2139095040 := by decide +kernel
  have h3 := rungOf_le Ieee.single m p
  rw [inf32] at h3
  omega
theorem rung_small {m : Nat} {p : Int} (hm : m < 16777216) (hp : p ≤ -174) : rungOf Ieee.single m p = 0 := by
  have h1 : rungOf Ieee.single m p ≤ rungOf Ieee.single (16777216 * 2 ^ (-174 - p).toNat) p := rung_mono _ _ (by
    have : 16777216 * 1 ≤ 16777216 * 2 ^ (-174 - p).toNat := Nat.mul_le_mul_left _ (Nat.two_pow_pos _)
    omega)
  rw [rung_scale, show p + (((-174 - p).toNat : Nat) : Int) = -174 by omega] at h1
  have h2 : rungOf Ieee.single 16777216 (-174) = 0 := by decide +kernel
  omega
theorem rungOf_zero (f : Ieee.Format) (p : Int) : rungOf f 0 p = 0 := by unfold rungOf; rw [if_pos rfl]
theorem read_word64 (s : Bool) : Ieee.double.read (Ieee.double.word s 0) = .number s 0 (-1074) := by
  obtain ⟨a, b⟩ := sgn_word64 s (r := 0) (by decide)
  rw [read_fin64 (by rw [b]; decide), a, b]; rfl
theorem read_winf64 (s : Bool) : Ieee.double.read (Ieee.double.word s 9218868437227405312) = .infinity s := by
  obtain ⟨a, b⟩ := sgn_word64 s (r := 9218868437227405312) (by decide)
  rw [read_inf64 b, a]
/-- What Scale tells of a sample that is no NaN: nought, infinity, or the number rounded. -/
theorem scaleV_fin {a : Nat} (h0 : rung32 a ≠ 0) (h : rung32 a < 2139095040) (n : Int) : scaleV a n = Ieee.single.word (sgn32 a) (rungOf Ieee.single (mag32 (rung32 a)) (-149 + (plc32 (rung32 a) : Int) + n)) := by
  have hn : nanN a = false := by rw [nanN_rung]; exact decide_eq_false (by omega)
  unfold scaleV
  rw [hn, if_neg (by decide)]
  obtain ⟨L, hL, m0, m1, e, hp⟩ := wide_wd h0 h
  obtain ⟨c0, c1⟩ := clamp_bd n
  have b0 : 4503599627370496 ≤ mag32 (rung32 a) * 2 ^ (52 - L) := by
    have := Nat.mul_le_mul_right (2 ^ (52 - L)) m0
    rw [← Nat.pow_add, show L + (52 - L) = 52 by omega] at this
    exact this
  have b1 : mag32 (rung32 a) * 2 ^ (52 - L) < 9007199254740992 := by
    have := Nat.mul_lt_mul_of_pos_right m1 (Nat.two_pow_pos (52 - L))
    rw [← Nat.pow_add, show L + 1 + (52 - L) = 53 by omega] at this
    exact this
  rw [e, ldV_wd b0 b1 (by omega) (by omega) (by omega), read_wd b0 b1 (by omega) (by omega)]
  rw [toldD_num, rung_scale, show -149 + (plc32 (rung32 a) : Int) + L - 52 + clampV n + ((52 - L : Nat) : Int) = -149 + (plc32 (rung32 a) : Int) + clampV n by omega]
  refine congrArg (Ieee.single.word (sgn32 a)) ?_
  have hm := mag_ne32 h0
  have hm1 := mag_lt32 (rung32 a)
  unfold clampV
  split
  · rw [rung_small hm1 (by omega), rung_small hm1 (by omega)]
  · split
    · rw [rung_big hm (by omega), rung_big hm (by omega)]
    · rfl
theorem scaleV_zero {a : Nat} (h : rung32 a = 0) (n : Int) : scaleV a n = Ieee.single.word (sgn32 a) 0 := by
  have hn : nanN a = false := by rw [nanN_rung]; exact decide_eq_false (by omega)
  unfold scaleV ldV
  rw [hn, if_neg (by decide), wide_zero h, if_pos (Or.inl (sgn_word64 _ (by decide)).2), read_word64]
  rw [toldD_num, rungOf_zero]
theorem scaleV_inf {a : Nat} (h : rung32 a = 2139095040) (n : Int) : scaleV a n = Ieee.single.word (sgn32 a) 2139095040 := by
  have hn : nanN a = false := by rw [nanN_rung]; exact decide_eq_false (by omega)
  unfold scaleV ldV
  rw [hn, if_neg (by decide), wide_inf h, if_pos (Or.inr (by rw [(sgn_word64 _ (by decide)).2]; exact Nat.le_refl _)), read_winf64]
  show Ieee.single.word _ Ieee.single.infRung = _
  rw [inf32]
theorem scaleV_nan {a : Nat} (h : nanN a = true) (n : Int) : scaleV a n = 2143289344 := by
  unfold scaleV; rw [h]; rfl
end Go.Proofs.Ytgpgjbgobaaohaa
