/- What the reference's Round returns at binary32: the nearest word. -/
import Derived.Test.YtkgojnjlfkijiaaG6918df28
import Derived.Deep.Cut
import Derived.Deep.CutRange
import Derived.Deep.CutBlock
import Derived.Test.YtkgojnjlfkijiaaG75909c20
import Derived.Test.YtkgojnjlfkijiaaG7189a185
import Derived.Test.YtkgojnjlfkijiaaG08a7e663
namespace Go.Proofs.Ytkgojnjlfkijiaa
open Go.RowKit

/-- The cells that Round reads. -/
structure RBox (F E : Int) (w wc : World) (neg : Bool) (more : Bool) : Prop where
  q : Q w wc
  f0 : wc.cell? ⟨w.heap.size, 0, none⟩ = some (.int .i64 F)
  f1 : wc.cell? ⟨w.heap.size, 1, none⟩ = some (.int .i64 E)
  k1 : wc.cell? ⟨w.heap.size + 1, 1, none⟩ = some (.bool neg)
  k4 : wc.cell? ⟨w.heap.size + 1, 4, none⟩ = some (.bool more)
theorem RBox.next {F E : Int} {w wc wd : World} {neg more : Bool} (h : RBox F E w wc neg more) (q : Q wc wd) : RBox F E w wd neg more :=
  ⟨h.q.trans q, q.cell h.f0, q.cell h.f1, q.cell h.k1, q.cell h.k4⟩
theorem Q.drewN {a b : World} (h : Q a b) (n : Nat) : Q a (b.drewN n) := by
  induction n with
  | zero => exact h
  | succ n ih => exact ih.drew

theorem to_wrapped {n : Nat} {e fr least : Int} (hbl : blen n ≤ 6000) (e0 : -5000 ≤ e) (e1 : e ≤ 5000) (f0 : 0 ≤ fr) (f1 : fr ≤ 100) :
    (if IntKind.i64.wrap (IntKind.i64.wrap (↑(blen n) + e) - IntKind.i64.wrap (fr + 1)) < least then least else IntKind.i64.wrap (IntKind.i64.wrap (↑(blen n) + e) - IntKind.i64.wrap (fr + 1))) = toV n e fr least := by
  have a1 : IntKind.i64.wrap ((blen n : Int) + e) = (blen n : Int) + e := by rw [IntKind.wrap_i64]; omega
  have a2 : IntKind.i64.wrap (fr + 1) = fr + 1 := by rw [IntKind.wrap_i64]; omega
  have a3 : IntKind.i64.wrap ((blen n : Int) + e - (fr + 1)) = (blen n : Int) + e - (fr + 1) := by rw [IntKind.wrap_i64]; omega
  rw [a1, a2, a3]
  unfold toV
  split <;> omega

theorem restB_mono {a k d : Nat} (h : k ≤ d) (hk : restB a k = true) : restB a d = true := by
  induction d with
  | zero => rw [show k = 0 by omega] at hk; exact hk
  | succ d ih =>
    by_cases e : k = d + 1
    · rw [← e]; exact hk
    · exact restB_t (ih (by omega))
theorem below_more {more : Bool} {n k d : Nat} (h : k < d) (hk : (more || restB n k) = true) : (more || restB n k) = (more || restB n d) := by
  rw [hk]
  cases more
  · rw [Bool.false_or] at hk ⊢; exact (restB_mono (by omega) hk).symm
  · rfl
theorem kept_odd {n d : Nat} {more : Bool} (h1 : bitV n d = 1) (h2 : more = false) (h3 : restB n d = false) (hb : bitV (n / 2 ^ (d + 1)) 0 ≤ 1) :
    n / 2 ^ (d + 1) + ((bitV (n / 2 ^ (d + 1)) 0 : Int) == 1).toNat = n / 2 ^ (d + 1) + if bitV n (d + 1 - 1) = 1 ∧ (more.toNat = 1 ∨ n % 2 ^ (d + 1 - 1) ≠ 0 ∨ bitV (n / 2 ^ (d + 1)) 0 = 1) then 1 else 0 := by
  rw [show d + 1 - 1 = d by omega, h2]
  have h4 : n % 2 ^ d = 0 := by unfold restB at h3; simpa using h3
  rcases (by omega : bitV (n / 2 ^ (d + 1)) 0 = 0 ∨ bitV (n / 2 ^ (d + 1)) 0 = 1) with g | g
  · rw [g, if_neg (by simp [h4])]; rfl
  · rw [g, if_pos ⟨h1, Or.inr (Or.inr rfl)⟩]; rfl
theorem kept_below {n d : Nat} {more : Bool} (h1 : bitV n d = 1) (h2 : (more || restB n d) = true) :
    n / 2 ^ (d + 1) + true.toNat = n / 2 ^ (d + 1) + if bitV n (d + 1 - 1) = 1 ∧ (more.toNat = 1 ∨ n % 2 ^ (d + 1 - 1) ≠ 0 ∨ bitV (n / 2 ^ (d + 1)) 0 = 1) then 1 else 0 := by
  rw [show d + 1 - 1 = d by omega, if_pos]
  · rfl
  · refine ⟨h1, ?_⟩
    cases more
    · right; left
      unfold restB at h2
      simpa using h2
    · left; rfl

end Go.Proofs.Ytkgojnjlfkijiaa
/- What the reference's Round, bits and num return of whatever number and sample. -/
namespace Go.Proofs.Ytkgojnjlfkijiaa
open Go.RowKit

/-- The word that a number is rounded to. -/
def roundR : RNum → Nat
  | ⟨none⟩ => 2143289344
  | ⟨some (.inl s)⟩ => Ieee.single.word s 2139095040
  | ⟨some (.inr (s, n, e, m))⟩ => Ieee.single.word s (rungOf Ieee.single (2 * n + m.toNat) (e - 1))
/-- Numbers that Round takes. -/
def fits : RNum → Prop
  | ⟨some (.inr (_, n, e, m))⟩ => blen n ≤ 6000 ∧ -5000 ≤ e ∧ e ≤ 5000 ∧ (m = true → n ≠ 0 ∧ e + 1 ≤ lastOf Ieee.single n e)
  | _ => True
theorem rung_le (f : Ieee.Format) (m : Nat) (p : Int) : rungOf f m p ≤ f.infRung := by
  unfold rungOf; split
  · exact Nat.zero_le _
  · exact Nat.min_le_right _ _
theorem roundR_lt (x : RNum) : roundR x < 4294967296 := by
  cases x using RNum.rec3 with
  | nan => decide
  | inf s => exact word_lt (by decide)
  | fin s n e m =>
    refine word_lt ?_
    have := rung_le Ieee.single (2 * n + m.toNat) (e - 1)
    rw [single_inf] at this
    omega

/-- A number stays where a struct of another kind is written. -/
theorem natAt_but {w w' : World} {v : Value} {n rb : Nat} {z : Int} (h : NatAt w v n) (h0 : w.cell? ⟨rb, 0, none⟩ = some (.int .i64 z)) (ha : ∀ a : Addr, a.block ≠ rb → w'.cell? a = w.cell? a) : NatAt w' v n := by
  obtain ⟨p, b, L, C, e, hn⟩ := h
  refine ⟨p, b, L, C, e, hn.ptr, fun i hi => ?_, hn.hi, hn.lo, hn.len⟩
  have hne : b ≠ rb := fun g => by
    subst g
    have := hn.cell 0 (by omega)
    rw [h0] at this
    cases this
  rw [ha ⟨b, i, none⟩ hne]; exact hn.cell i hi
theorem numAt_but {w w' : World} {v : Value} {x : RNum} {rb : Nat} {z : Int} (h : NumAt w v x) (h0 : w.cell? ⟨rb, 0, none⟩ = some (.int .i64 z)) (ha : ∀ a : Addr, a.block ≠ rb → w'.cell? a = w.cell? a) : NumAt w' v x := by
  cases x using RNum.rec3 with
  | nan => exact h
  | inf s => exact h
  | fin s n e m =>
    obtain ⟨nv, e, hn⟩ := h
    exact ⟨nv, e, natAt_but hn h0 ha⟩
theorem set_but (w : World) {rb i : Nat} {x : Value} {a : Addr} (h : a.block ≠ rb) : (w.setCell ⟨rb, i, none⟩ x).cell? a = w.cell? a :=
  World.cell?_setCell_other _ _ _ _ (fun e => h (by rw [← e]))
/-- What every number is made of. -/
theorem NumAt.made {w : World} {v : Value} {x : RNum} (h : NumAt w v x) : ∃ k s p L C e m, v = .agg #[.int .i64 k, .bool s, .slice p L C, .int .i64 e, .bool m] := by
  cases x using RNum.rec3 with
  | nan => obtain ⟨b, e, m, rfl⟩ := h; exact ⟨_, _, _, _, _, _, _, rfl⟩
  | inf s => obtain ⟨e, m, rfl⟩ := h; exact ⟨_, _, _, _, _, _, _, rfl⟩
  | fin s n e m =>
    obtain ⟨nv, rfl, p, b, L, C, rfl, hn⟩ := h
    exact ⟨_, _, _, _, _, _, _, rfl⟩
/-- A block of five cells as a new struct has them, none of them frozen. -/
structure Res5 (w : World) (rb : Nat) : Prop where
  c0 : w.cell? ⟨rb, 0, none⟩ = some (.int .i64 0)
  c1 : w.cell? ⟨rb, 1, none⟩ = some (.bool false)
  c2 : w.cell? ⟨rb, 2, none⟩ = some (.slice none 0 0)
  c3 : w.cell? ⟨rb, 3, none⟩ = some (.int .i64 0)
  c4 : w.cell? ⟨rb, 4, none⟩ = some (.bool false)
  z : ∀ i, w.frozen? ⟨rb, i, none⟩ = false
theorem Res5.next {w w' : World} {rb : Nat} (h : Res5 w rb) (q : Q w w') : Res5 w' rb :=
  ⟨q.cell h.c0, q.cell h.c1, q.cell h.c2, q.cell h.c3, q.cell h.c4, fun i => by rw [q.2]; exact h.z i⟩

end Go.Proofs.Ytkgojnjlfkijiaa
/- What the reference's PlusNum returns: the exact sum. -/
namespace Go.Proofs.Ytkgojnjlfkijiaa
open Go.RowKit

/-- The exact sum. -/
def plusFin (s t : Bool) (x y : Nat) (b : Int) : RNum :=
  if s = t then .fin s (x + y) b false
  else if x = y then .fin false 0 b false
  else if y < x then .fin s (x - y) b false
  else .fin t (y - x) b false
def plusR : RNum → RNum → RNum
  | ⟨none⟩, _ => .nan
  | ⟨some (.inl _)⟩, ⟨none⟩ => .nan
  | ⟨some (.inr _)⟩, ⟨none⟩ => .nan
  | ⟨some (.inl s)⟩, ⟨some (.inl t)⟩ => if s = t then .inf s else .nan
  | ⟨some (.inl s)⟩, ⟨some (.inr _)⟩ => .inf s
  | ⟨some (.inr _)⟩, ⟨some (.inl t)⟩ => .inf t
  | ⟨some (.inr (s, n, e, _))⟩, ⟨some (.inr (t, m, f, _))⟩ => plusFin s t (n * 2 ^ (e - min e f).toNat) (m * 2 ^ (f - min e f).toNat) (min e f)
/-- Numbers that PlusNum takes. -/
def small : RNum → Prop
  | ⟨some (.inr (_, n, e, _))⟩ => blen n ≤ 2000 ∧ -2000 ≤ e ∧ e ≤ 2000
  | _ => True

/-- The cells that PlusNum reads and writes behind the shifts. -/
structure PBox (w wc : World) (s t : Bool) : Prop where
  q : Q w wc
  a1 : wc.cell? ⟨w.heap.size, 1, none⟩ = some (.bool s)
  b1 : wc.cell? ⟨w.heap.size + 1, 1, none⟩ = some (.bool t)
  r : Res5 wc (w.heap.size + 1 + 1)
theorem PBox.next {w wc wd : World} {s t : Bool} (h : PBox w wc s t) (q : Q wc wd) : PBox w wd s t :=
  ⟨h.q.trans q, q.cell h.a1, q.cell h.b1, h.r.next q⟩

set_option maxHeartbeats 4000000 in
set_option maxRecDepth 1000000 in
theorem plus_odd (va vb : Value) (x y : RNum) (w : World) (hx : NumAt w va x) (hy : NumAt w vb y) (hne : ∀ s n e m t k f g, ¬ (x = .fin s n e m ∧ y = .fin t k f g)) :
    Calls Try.prog 25 #[va, vb] w fun e w' => ∃ v, e = .returned v ∧ NumAt w' v (plusR x y) ∧ Q w w' := by
  cases x using RNum.rec3 with
  | nan =>
    obtain ⟨b, e, m, rfl⟩ := hx
    obtain ⟨k, s, p, L, C, ee, mm, rfl⟩ := hy.made
    clear hy hne
    go_enter Try.func25, Try.ntmps25
    go_wp2_with fail
    refine bodyPost_ret (v := .agg #[.int .i64 0, .bool false, .slice none 0 0, .int .i64 0, .bool false]) (by simp [results, Try.results25, go_sem]) rfl ⟨_, rfl, ⟨_, _, _, rfl⟩, ?_⟩
    exact (((Q.refl w).cells _ _).cells _ _).cells _ _
  | inf s =>
    obtain ⟨e, m, rfl⟩ := hx
    cases y using RNum.rec3 with
    | nan =>
      obtain ⟨b, e', m', rfl⟩ := hy
      go_enter Try.func25, Try.ntmps25
      go_wp2_with fail
      refine bodyPost_ret (v := .agg #[.int .i64 0, .bool false, .slice none 0 0, .int .i64 0, .bool false]) (by simp [results, Try.results25, go_sem]) rfl ⟨_, rfl, ⟨_, _, _, rfl⟩, ?_⟩
      exact (((Q.refl w).cells _ _).cells _ _).cells _ _
    | inf t =>
      obtain ⟨e', m', rfl⟩ := hy
      clear hne
      cases s <;> cases t
      · go_enter Try.func25, Try.ntmps25
        go_wp2_with fail
        refine bodyPost_ret (v := .agg #[.int .i64 1, .bool false, .slice none 0 0, .int .i64 e, .bool m]) (by simp [results, Try.results25, go_sem]) rfl ⟨_, rfl, ⟨_, _, rfl⟩, ?_⟩
        exact (((Q.refl w).cells _ _).cells _ _).cells _ _
      · go_enter Try.func25, Try.ntmps25
        go_wp2_with fail
        refine bodyPost_ret (v := .agg #[.int .i64 0, .bool false, .slice none 0 0, .int .i64 0, .bool false]) (by simp [results, Try.results25, go_sem]) rfl ⟨_, rfl, ⟨_, _, _, rfl⟩, ?_⟩
        exact (((Q.refl w).cells _ _).cells _ _).cells _ _
      · go_enter Try.func25, Try.ntmps25
        go_wp2_with fail
        refine bodyPost_ret (v := .agg #[.int .i64 0, .bool false, .slice none 0 0, .int .i64 0, .bool false]) (by simp [results, Try.results25, go_sem]) rfl ⟨_, rfl, ⟨_, _, _, rfl⟩, ?_⟩
        exact (((Q.refl w).cells _ _).cells _ _).cells _ _
      · go_enter Try.func25, Try.ntmps25
        go_wp2_with fail
        refine bodyPost_ret (v := .agg #[.int .i64 1, .bool true, .slice none 0 0, .int .i64 e, .bool m]) (by simp [results, Try.results25, go_sem]) rfl ⟨_, rfl, ⟨_, _, rfl⟩, ?_⟩
        exact (((Q.refl w).cells _ _).cells _ _).cells _ _
    | fin t k f g =>
      obtain ⟨nv, rfl, p, b, L, C, rfl, hn⟩ := hy
      clear hne
      go_enter Try.func25, Try.ntmps25
      go_wp2_with fail
      refine bodyPost_ret (v := .agg #[.int .i64 1, .bool s, .slice none 0 0, .int .i64 e, .bool m]) (by simp [results, Try.results25, go_sem]) rfl ⟨_, rfl, ⟨_, _, rfl⟩, ?_⟩
      exact (((Q.refl w).cells _ _).cells _ _).cells _ _
  | fin s n e m =>
    obtain ⟨nv, rfl, p, b, L, C, rfl, hn⟩ := hx
    cases y using RNum.rec3 with
    | nan =>
      obtain ⟨b', e', m', rfl⟩ := hy
      clear hne
      go_enter Try.func25, Try.ntmps25
      go_wp2_with fail
      refine bodyPost_ret (v := .agg #[.int .i64 0, .bool false, .slice none 0 0, .int .i64 0, .bool false]) (by simp [results, Try.results25, go_sem]) rfl ⟨_, rfl, ⟨_, _, _, rfl⟩, ?_⟩
      exact (((Q.refl w).cells _ _).cells _ _).cells _ _
    | inf t =>
      obtain ⟨e', m', rfl⟩ := hy
      clear hne
      go_enter Try.func25, Try.ntmps25
      go_wp2_with fail
      refine bodyPost_ret (v := .agg #[.int .i64 1, .bool t, .slice none 0 0, .int .i64 e', .bool m']) (by simp [results, Try.results25, go_sem]) rfl ⟨_, rfl, ⟨_, _, rfl⟩, ?_⟩
      exact (((Q.refl w).cells _ _).cells _ _).cells _ _
    | fin t k f g => exact absurd ⟨rfl, rfl⟩ (hne s n e m t k f g)

theorem far2 (w : World) : w.heap.size ≤ w.heap.size + 1 + 1 := by omega
theorem far3 (w : World) : (⟨w.heap.size, 1, none⟩ : Addr).block ≠ w.heap.size + 1 + 1 := by show w.heap.size ≠ _; omega
theorem far4 (w : World) : (⟨w.heap.size + 1, 1, none⟩ : Addr).block ≠ w.heap.size + 1 + 1 := by show w.heap.size + 1 ≠ _; omega
theorem add_cap {x y : Nat} (hx : x < 2 ^ 6000) (hy : y < 2 ^ 6000) : x + y < cap := by
  obtain ⟨j, hj⟩ : ∃ j, j = 6000 := ⟨_, rfl⟩
  rw [← hj] at hx hy
  exact lt_cap (k := j + 1) (by rw [Nat.pow_succ]; omega) (by omega)
theorem shifted_lt {k : Nat} (n d : Nat) (h : blen n + d ≤ k) : n * 2 ^ d < 2 ^ k := by
  have h1 : n * 2 ^ d < 2 ^ blen n * 2 ^ d := Nat.mul_lt_mul_of_pos_right (blen_lt n) (Nat.two_pow_pos d)
  rw [← Nat.pow_add] at h1
  exact Nat.lt_of_lt_of_le h1 (Nat.pow_le_pow_right (by decide) h)

set_option maxHeartbeats 8000000 in
set_option maxRecDepth 1000000 in
theorem plus_fin (s t m m' : Bool) (va vb : Value) (n k : Nat) (e f : Int) (w : World) (hn : NatAt w va n) (hk : NatAt w vb k)
    (n1 : blen n ≤ 2000) (e0 : -2000 ≤ e) (e1 : e ≤ 2000) (k1 : blen k ≤ 2000) (f0 : -2000 ≤ f) (f1 : f ≤ 2000) :
    Calls Try.prog 25 #[.agg #[.int .i64 2, .bool s, va, .int .i64 e, .bool m], .agg #[.int .i64 2, .bool t, vb, .int .i64 f, .bool m']] w
      fun x w' => ∃ v, x = .returned v ∧ NumAt w' v (plusFin s t (n * 2 ^ (e - min e f).toNat) (k * 2 ^ (f - min e f).toNat) (min e f)) ∧ Q w w' := by
  obtain ⟨b, hb⟩ : ∃ b, b = min e f := ⟨_, rfl⟩
  rw [← hb]
  obtain ⟨da, hda⟩ : ∃ da : Nat, da = (e - b).toNat := ⟨_, rfl⟩
  obtain ⟨db, hdb⟩ : ∃ db : Nat, db = (f - b).toNat := ⟨_, rfl⟩
  rw [← hda, ← hdb]
  have ea : e - b = (da : Int) := by omega
  have eb : f - b = (db : Int) := by omega
  have b0 : -2000 ≤ b := by omega
  have b1 : b ≤ 2000 := by omega
  have hda4 : da ≤ 4000 := by omega
  have hdb4 : db ≤ 4000 := by omega
  have wa : IntKind.i64.wrap (da : Int) = (da : Int) := by rw [IntKind.wrap_i64]; omega
  have wb : IntKind.i64.wrap (db : Int) = (db : Int) := by rw [IntKind.wrap_i64]; omega
  have hcx := shifted_lt (k := 6000) n da (by omega)
  have hcy := shifted_lt (k := 6000) k db (by omega)
  obtain ⟨X, hX⟩ : ∃ X, X = n * 2 ^ da := ⟨_, rfl⟩
  obtain ⟨Y, hY⟩ : ∃ Y, Y = k * 2 ^ db := ⟨_, rfl⟩
  have hcap1 : Hid (n * 2 ^ da < cap) := lt_cap hcx (by decide)
  have hcap2 : Hid (k * 2 ^ db < cap) := lt_cap hcy (by decide)
  have hcap3 : Hid (X + Y < cap) := by
    show X + Y < cap
    rw [hX, hY]
    exact add_cap hcx hcy
  rw [← hX, ← hY]
  have HX : Hid _ := hX
  have HY : Hid _ := hY
  have HBM : Hid _ := hb
  clear hcx hcy hX hY hda hdb
  obtain ⟨pa, ba, La, Ca, rfl, hnI⟩ := hn
  obtain ⟨pb, bb, Lb, Cb, rfl, hkI⟩ := hk
  have HNA : Hid (NatAt w (.slice pa La Ca) n) := ⟨pa, ba, La, Ca, rfl, hnI⟩
  have HKA : Hid (NatAt w (.slice pb Lb Cb) k) := ⟨pb, bb, Lb, Cb, rfl, hkI⟩
  clear hnI hkI hb
  go_enter Try.func25, Try.ntmps25
  go_upto_region 7 with fail
  go_cut [5] from 9 (fun s5 wc => s5 = .int .i64 b ∧ wc.cell? ⟨w.heap.size, 2, none⟩ = some (.slice pa La Ca) ∧ wc.cell? ⟨w.heap.size, 3, none⟩ = some (.int .i64 e) ∧ wc.cell? ⟨w.heap.size + 1, 2, none⟩ = some (.slice pb Lb Cb) ∧ wc.cell? ⟨w.heap.size + 1, 3, none⟩ = some (.int .i64 f) ∧ PBox w wc s t)
  case first =>
    go_wp2_with fail
    all_goals
      go_meet
      case rel =>
        go_light
        refine ⟨congrArg (Value.int .i64) (by have := HBM.out; omega), by simp [go_sem], by simp [go_sem], by simp [go_sem], by simp [go_sem], (((Q.refl w).cells _ _).cells _ _).cells _ _, by simp [go_sem], by simp [go_sem], ⟨by simp [go_sem], by simp [go_sem], by simp [go_sem], by simp [go_sem], by simp [go_sem], fun i => by simp [go_sem]⟩⟩
  case rest =>
    obtain ⟨rfl, a2, a3, c2, c3, hB⟩ := hcut
    go_upto_region 8 with fail
    go_cut [6, 7] from 9 (fun s6 s7 wd => NatAt wd s6 X ∧ NatAt wd s7 Y ∧ PBox w wd s t)
    case first =>
      go_region_held3 (fun w' => w'.cell? ⟨w.heap.size, 2, none⟩ = some (.slice pa La Ca) ∧ w'.cell? ⟨w.heap.size, 3, none⟩ = some (.int .i64 e) ∧ w'.cell? ⟨w.heap.size + 1, 2, none⟩ = some (.slice pb Lb Cb) ∧ w'.cell? ⟨w.heap.size + 1, 3, none⟩ = some (.int .i64 f)) (first | (refine ⟨?_, ?_, ?_, ?_⟩ <;> assumption) | (simp [a2, a3, c2, c3]; done) | go_keep) (first | (go_at_call_of 27 (Value.slice pa La Ca); refine (up_any _ n da _ (Q.nat hB.q.drew HNA.out) hcap1.out).mono ?_; rintro x w1 ⟨v1, rfl, hv1, q1⟩; have g2 := q1.cell (p := ⟨w.heap.size, 2, none⟩) a2; have g3 := q1.cell (p := ⟨w.heap.size, 3, none⟩) a3; have g4 := q1.cell (p := ⟨w.heap.size + 1, 2, none⟩) c2; have g5 := q1.cell (p := ⟨w.heap.size + 1, 3, none⟩) c3) | (go_at_call_of 27 (Value.slice pb Lb Cb); refine (up_any _ k db _ (Q.nat (hB.q.drew.trans q1) HKA.out) hcap2.out).mono ?_; rintro x w2 ⟨v2, rfl, hv2, q2⟩; have h2 := q2.cell g2; have h3 := q2.cell g3; have h4 := q2.cell g4; have h5 := q2.cell g5))
      all_goals
        go_wp2_with fail
        go_meet
        case rel =>
          go_light
          exact ⟨by rw [HX.out]; exact q2.nat hv1, by rw [HY.out]; exact hv2, ((hB.next (Q.refl _).drew).next q1).next q2⟩
    case rest =>
      obtain ⟨h6, h7, hB2⟩ := hcut
      have a1 := hB2.a1
      have b1 := hB2.b1
      have H6 : Hid _ := h6
      have H7 : Hid _ := h7
      clear ea eb wa wb a2 a3 c2 c3 h6 h7
      cases hst : (s == t)
      · have hne : s ≠ t := by simpa using hst
        go_wp2_with fail
        refine (compare_any _ _ X Y _ H6.out H7.out).mono ?_
        rintro x w3 ⟨rfl, q3⟩
        have hB3 := hB2.next q3
        have a1 := hB3.a1
        have b1 := hB3.b1
        have J6 : Hid _ := q3.nat H6.out
        have J7 : Hid _ := q3.nat H7.out
        clear hB2
        rcases Nat.lt_trichotomy X Y with hc | hc | hc
        · have ec : cmpV X Y = -1 := by unfold cmpV; rw [if_pos hc]
          rw [ec]
          have HC : Hid _ := hc
          clear ec hc
          go_wp2_with fail
          go_region_with (first | (go_at_call 50; refine (minus_any _ _ Y X _ (Q.nat (Q.refl _).drew J7.out) (Q.nat (Q.refl _).drew J6.out) (Nat.lt_of_le_of_lt (Nat.le_add_left _ _) hcap3.out) (Nat.le_of_lt HC.out)).mono ?_; rintro x w4 ⟨v4, rfl, hv4, q4⟩; obtain ⟨p4, b4, L4, C4, rfl, hI4⟩ := hv4; have n1 := q4.cell (p := ⟨w.heap.size + 1, 1, none⟩) b1; have R := hB3.r.next ((Q.refl _).drew.trans q4); have d0 := R.c0; have d1 := R.c1; have d2 := R.c2; have d3 := R.c3; have d4 := R.c4; have y0 := R.z 0; have y1 := R.z 1; have y2 := R.z 2; have y3 := R.z 3; have y4 := R.z 4))
          all_goals
            go_wp2_with fail
            refine bodyPost_ret (v := .agg #[.int .i64 2, .bool t, .slice p4 L4 C4, .int .i64 b, .bool false]) (by simp [results, Try.results25, go_sem, d0, d1, d2, d3, d4]) rfl ⟨_, rfl, ?_, ?_⟩
            · rw [show plusFin s t X Y b = .fin t (Y - X) b false from by have := HC.out; unfold plusFin; rw [if_neg hne, if_neg (by omega), if_neg (by omega)]]
              exact ⟨_, rfl, natAt_but ⟨p4, b4, L4, C4, rfl, hI4⟩ d0 (fun a ha => by repeat rw [set_but _ ha])⟩
            · exact ((((((hB3.q.drew).trans q4).set (far2 w) _).set (far2 w) _).set (far2 w) _).set (far2 w) _).set (far2 w) _
        · have ec : cmpV X Y = 0 := by unfold cmpV; rw [if_neg (by omega), if_pos hc]
          rw [ec]
          have HC : Hid _ := hc
          clear ec hc
          have d0 := hB3.r.c0
          have d1 := hB3.r.c1
          have d2 := hB3.r.c2
          have d3 := hB3.r.c3
          have d4 := hB3.r.c4
          have y0 := hB3.r.z 0
          have y1 := hB3.r.z 1
          have y2 := hB3.r.z 2
          have y3 := hB3.r.z 3
          have y4 := hB3.r.z 4
          go_wp2_with fail
          refine bodyPost_ret (v := .agg #[.int .i64 2, .bool false, .slice none 0 0, .int .i64 b, .bool false]) (by simp [results, Try.results25, go_sem, d0, d1, d2, d3, d4]) rfl ⟨_, rfl, ?_, ?_⟩
          · rw [show plusFin s t X Y b = .fin false 0 b false from by unfold plusFin; rw [if_neg hne, if_pos HC.out]]
            exact ⟨_, rfl, nat_nil _⟩
          · exact ((((hB3.q.set (far2 w) _).set (far2 w) _).set (far2 w) _).set (far2 w) _).set (far2 w) _
        · have ec : cmpV X Y = 1 := by unfold cmpV; rw [if_neg (by omega), if_neg (by omega)]
          rw [ec]
          have HC : Hid _ := hc
          clear ec hc
          go_wp2_with fail
          go_region_with (first | (go_at_call 50; refine (minus_any _ _ X Y _ (Q.nat (Q.refl _).drew J6.out) (Q.nat (Q.refl _).drew J7.out) (Nat.lt_of_le_of_lt (Nat.le_add_right _ _) hcap3.out) (Nat.le_of_lt HC.out)).mono ?_; rintro x w4 ⟨v4, rfl, hv4, q4⟩; obtain ⟨p4, b4, L4, C4, rfl, hI4⟩ := hv4; have n1 := q4.cell (p := ⟨w.heap.size, 1, none⟩) a1; have R := hB3.r.next ((Q.refl _).drew.trans q4); have d0 := R.c0; have d1 := R.c1; have d2 := R.c2; have d3 := R.c3; have d4 := R.c4; have y0 := R.z 0; have y1 := R.z 1; have y2 := R.z 2; have y3 := R.z 3; have y4 := R.z 4))
          all_goals
            go_wp2_with fail
            refine bodyPost_ret (v := .agg #[.int .i64 2, .bool s, .slice p4 L4 C4, .int .i64 b, .bool false]) (by simp [results, Try.results25, go_sem, d0, d1, d2, d3, d4]) rfl ⟨_, rfl, ?_, ?_⟩
            · rw [show plusFin s t X Y b = .fin s (X - Y) b false from by have := HC.out; unfold plusFin; rw [if_neg hne, if_neg (by omega), if_pos this]]
              exact ⟨_, rfl, natAt_but ⟨p4, b4, L4, C4, rfl, hI4⟩ d0 (fun a ha => by repeat rw [set_but _ ha])⟩
            · exact ((((((hB3.q.drew).trans q4).set (far2 w) _).set (far2 w) _).set (far2 w) _).set (far2 w) _).set (far2 w) _
      · have heq : s = t := by simpa using hst
        subst heq
        clear hst
        go_wp2_with fail
        go_region_with (first | (go_at_call 49; refine (plus_any _ _ X Y _ (Q.nat (Q.refl _).drew H6.out) (Q.nat (Q.refl _).drew H7.out) hcap3.out).mono ?_; rintro x w4 ⟨v4, rfl, hv4, q4⟩; obtain ⟨p4, b4, L4, C4, rfl, hI4⟩ := hv4; have n1 := q4.cell (p := ⟨w.heap.size, 1, none⟩) a1; have R := hB2.r.next ((Q.refl _).drew.trans q4); have d0 := R.c0; have d1 := R.c1; have d2 := R.c2; have d3 := R.c3; have d4 := R.c4; have y0 := R.z 0; have y1 := R.z 1; have y2 := R.z 2; have y3 := R.z 3; have y4 := R.z 4))
        all_goals
          go_wp2_with fail
          refine bodyPost_ret (v := .agg #[.int .i64 2, .bool s, .slice p4 L4 C4, .int .i64 b, .bool false]) (by simp [results, Try.results25, go_sem, d0, d1, d2, d3, d4]) rfl ⟨_, rfl, ?_, ?_⟩
          · rw [show plusFin s s X Y b = .fin s (X + Y) b false from by unfold plusFin; rw [if_pos rfl]]
            exact ⟨_, rfl, natAt_but ⟨p4, b4, L4, C4, rfl, hI4⟩ d0 (fun a ha => by repeat rw [set_but _ ha])⟩
          · exact ((((((hB2.q.drew).trans q4).set (far2 w) _).set (far2 w) _).set (far2 w) _).set (far2 w) _).set (far2 w) _

theorem plusnum_any (va vb : Value) (x y : RNum) (w : World) (hx : NumAt w va x) (hy : NumAt w vb y) (sx : small x) (sy : small y) :
    Calls Try.prog 25 #[va, vb] w fun e w' => ∃ v, e = .returned v ∧ NumAt w' v (plusR x y) ∧ Q w w' := by
  cases x using RNum.rec3 with
  | fin s n e m =>
    cases y using RNum.rec3 with
    | fin t k f g =>
      obtain ⟨nv, rfl, hn⟩ := hx
      obtain ⟨kv, rfl, hk⟩ := hy
      exact plus_fin s t m g nv kv n k e f w hn hk sx.1 sx.2.1 sx.2.2 sy.1 sy.2.1 sy.2.2
    | nan => exact plus_odd va vb _ _ w hx hy (fun _ _ _ _ _ _ _ _ h => by cases h.2)
    | inf t => exact plus_odd va vb _ _ w hx hy (fun _ _ _ _ _ _ _ _ h => by cases h.2)
  | nan => exact plus_odd va vb _ _ w hx hy (fun _ _ _ _ _ _ _ _ h => by cases h.1)
  | inf s => exact plus_odd va vb _ _ w hx hy (fun _ _ _ _ _ _ _ _ h => by cases h.1)
end Go.Proofs.Ytkgojnjlfkijiaa
/- Plain facts: a number rounded to binary32 lies as near as any sample; from 2^128 - 2^103 on it is an infinity. -/
namespace Go.Proofs.Ytkgojnjlfkijiaa
open Go.RowKit
set_option linter.unusedVariables false
set_option linter.unusedSimpArgs false

/-- A number's size in units of 2^-1074. -/
def zm (n : Nat) (e : Int) : Nat := n * 2 ^ (e + 1074).toNat
theorem zm_cut {n : Nat} {e b : Int} (hb : -1074 ≤ b) (h : b ≤ e) : zm n e = n * 2 ^ (e - b).toNat * 2 ^ (b + 1074).toNat := by
  unfold zm
  rw [Nat.mul_assoc, ← Nat.pow_add]
  congr 2
  omega
theorem zm_le {n k : Nat} {e f : Int} (he : -1074 ≤ e) (hf : -1074 ≤ f) : decide (n * 2 ^ (e - min e f).toNat ≤ k * 2 ^ (f - min e f).toNat) = decide (zm n e ≤ zm k f) := by
  rw [decide_eq_decide, zm_cut (b := min e f) (by omega) (by omega), zm_cut (e := f) (b := min e f) (by omega) (by omega)]
  exact (Nat.mul_le_mul_right_iff (Nat.two_pow_pos _)).symm
theorem rung_zm {n : Nat} {e : Int} (he : -1074 ≤ e) : rungOf Ieee.single n e = rungOf Ieee.single (zm n e) (-1074) := by
  unfold zm
  rw [rung_scale]
  congr 1
  omega
/-- How many digits are lost. -/
def lostZ (M : Nat) : Nat := max (M.log2 - 23) 925
theorem lastZ (M : Nat) : lastOf Ieee.single M (-1074) = -1074 + (lostZ M : Int) := by
  unfold lastOf lostZ; rw [least32, frac32]; omega
theorem kept_bdZ {M : Nat} : rne M (lostZ M) ≤ 16777216 ∧ (925 < lostZ M → 8388608 ≤ rne M (lostZ M)) := by
  have e3 : (-1074 : Int) - (-1074 + (lostZ M : Int)) = -(lostZ M : Int) := by omega
  have hk := kept_le Ieee.single M (-1074)
  rw [lastZ, e3, rz_neg, binade32] at hk
  refine ⟨hk, fun h => ?_⟩
  have hM : M ≠ 0 := by intro h0; subst h0; exact absurd h (by decide)
  have := le_kept Ieee.single hM (-1074) (by rw [lastZ, frac32]; unfold lostZ at *; omega)
  rw [lastZ, e3, rz_neg, binade32] at this
  exact this
theorem rungZ {M : Nat} (hM : M ≠ 0) : rungOf Ieee.single M (-1074) = min ((lostZ M - 925) * 8388608 + rne M (lostZ M)) 2139095040 := by
  unfold rungOf
  rw [if_neg hM, lastZ, least32, binade32, inf32, show (-1074 + (lostZ M : Int) - -149).toNat = lostZ M - 925 by unfold lostZ; omega, show (-1074 : Int) - (-1074 + (lostZ M : Int)) = -(lostZ M : Int) by omega, rz_neg]
theorem lostZ_ge (M : Nat) : 925 ≤ lostZ M := by unfold lostZ; omega
theorem valZ {M c : Nat} (hc : c = 925) (hM : M ≠ 0) (hr : rungOf Ieee.single M (-1074) < 2139095040) : val32 (rungOf Ieee.single M (-1074)) * 2 ^ c = rne M (lostZ M) * 2 ^ lostZ M := by
  rw [rungZ hM] at hr ⊢
  have h1 : (lostZ M - 925) * 8388608 + rne M (lostZ M) < 2139095040 := by omega
  rw [Nat.min_eq_left (by omega), val_of32 kept_bdZ.1 (fun h => kept_bdZ.2 (by omega)), Nat.mul_assoc, ← Nat.pow_add]
  congr 2
  have := lostZ_ge M
  omega
/-- It lies as near as any sample. -/
theorem bestZ {M c : Nat} (hc : c = 925) (hr : rungOf Ieee.single M (-1074) < 2139095040) (r : Nat) : (((val32 (rungOf Ieee.single M (-1074)) * 2 ^ c : Nat) : Int) - (M : Int)).natAbs ≤ (((val32 r * 2 ^ c : Nat) : Int) - (M : Int)).natAbs := by
  by_cases h0 : M = 0
  · subst h0
    rw [rungOf_zero, val_zero32, Nat.zero_mul]
    exact Nat.zero_le _
  · rw [valZ hc h0 hr]
    have hval : val32 r * 2 ^ c = mag32 r * 2 ^ (plc32 r + c) := by unfold val32; rw [Nat.mul_assoc, ← Nat.pow_add]
    rw [hval]
    obtain ⟨K, hK⟩ : ∃ K, K = lostZ M := ⟨_, rfl⟩
    rw [← hK]
    rcases Nat.lt_or_ge (plc32 r + c) K with h | h
    · have hl : 23 + K = M.log2 := by unfold lostZ at hK; omega
      have hm : 2 ^ (23 + K) ≤ M := by rw [hl]; exact Nat.log2_self_le h0
      have hv : mag32 r * 2 ^ (plc32 r + c) < 2 ^ (23 + K) := by
        have a1 : mag32 r * 2 ^ (plc32 r + c) < 2 ^ 24 * 2 ^ (plc32 r + c) := Nat.mul_lt_mul_of_pos_right (mag_lt32 r) (Nat.two_pow_pos _)
        rw [← Nat.pow_add] at a1
        exact Nat.lt_of_lt_of_le a1 (Nat.pow_le_pow_right (by decide) (by omega))
      have hb := rne_best M K (2 ^ 23)
      rw [← Nat.pow_add] at hb
      clear hc hval
      generalize 2 ^ (23 + K) = G at hm hv hb
      generalize mag32 r * 2 ^ (plc32 r + c) = V at hv ⊢
      generalize rne M K * 2 ^ K = W at hb ⊢
      omega
    · have e : mag32 r * 2 ^ (plc32 r + c) = mag32 r * 2 ^ (plc32 r + c - K) * 2 ^ K := by
        rw [Nat.mul_assoc, ← Nat.pow_add, show plc32 r + c - K + K = plc32 r + c by omega]
      rw [e]
      exact rne_best M K _
theorem rne_under {M k d : Nat} (h : 2 * M < (2 * k + 1) * 2 ^ d) : rne M d ≤ k := by
  obtain ⟨h1, _⟩ := rne_near M d
  have hp := Nat.two_pow_pos d
  rcases Nat.lt_or_ge k (rne M d) with g | g
  · have : (k + 1) * 2 ^ d ≤ rne M d * 2 ^ d := Nat.mul_le_mul_right _ g
    rw [Nat.add_mul, Nat.one_mul] at this
    rw [Nat.add_mul, Nat.one_mul, Nat.mul_assoc] at h
    generalize rne M d * 2 ^ d = A at *
    generalize k * 2 ^ d = B at *
    generalize 2 ^ d = C at *
    omega
  · exact g
/-- From 2^128 - 2^103 on it is an infinity, and not below. -/
theorem great_iff {M c : Nat} (hc : c = 1177) : decide (33554431 * 2 ^ c ≤ M) = decide (rungOf Ieee.single M (-1074) = 2139095040) := by
  rw [decide_eq_decide]
  have hle : ∀ M, rungOf Ieee.single M (-1074) ≤ 2139095040 := fun M => by have := rungOf_le Ieee.single M (-1074); rw [inf32] at this; exact this
  constructor
  · intro h
    have h1 := rung_mono Ieee.single (-1074) h
    have h2 : rungOf Ieee.single (33554431 * 2 ^ c) (-1074) = 2139095040 := by
      rw [rung_scale, hc]
      decide +kernel
    rw [h2] at h1
    exact Nat.le_antisymm (hle M) h1
  · intro h
    rcases Nat.lt_or_ge M (33554431 * 2 ^ c) with g | g
    · exfalso
      have hM : M ≠ 0 := fun e => by rw [e, rungOf_zero] at h; cases h
      have hl : M.log2 < 25 + c := (Nat.log2_lt hM).2 (Nat.lt_of_lt_of_le g (by rw [Nat.pow_add]; exact Nat.mul_le_mul_right _ (by decide)))
      have hK : lostZ M ≤ c + 1 := by unfold lostZ; omega
      rw [rungZ hM] at h
      rcases Nat.lt_or_ge (lostZ M) (c + 1) with k | k
      · have := (kept_bdZ (M := M)).1
        omega
      · have hKe : lostZ M = c + 1 := by omega
        have : rne M (c + 1) ≤ 16777215 := rne_under (by
          rw [Nat.pow_succ]
          generalize 2 ^ c = G at g ⊢
          omega)
        rw [hKe] at h
        omega
    · exact g
/-- An exact sum. -/
theorem signed_zm (s : Bool) (n j : Nat) : Ieee.signed s n j = if s = true then -((n * 2 ^ j : Nat) : Int) else ((n * 2 ^ j : Nat) : Int) := by
  unfold Ieee.signed; rw [Nat.shiftLeft_eq]
theorem plus_zs (s t : Bool) (n k : Nat) (e f : Int) (g h : Bool) (he : -1074 ≤ e) (hf : -1074 ≤ f) : ∃ σ N, plusR (.fin s n e g) (.fin t k f h) = .fin σ N (min e f) false ∧ zm N (min e f) = (Ieee.signed s n (e + 1074).toNat + Ieee.signed t k (f + 1074).toNat).natAbs ∧ (N ≠ 0 → σ = decide (Ieee.signed s n (e + 1074).toNat + Ieee.signed t k (f + 1074).toNat < 0)) := by
  obtain ⟨b, hb⟩ : ∃ b, b = min e f := ⟨_, rfl⟩
  obtain ⟨x, hx⟩ : ∃ x, x = n * 2 ^ (e - b).toNat := ⟨_, rfl⟩
  obtain ⟨y, hy⟩ : ∃ y, y = k * 2 ^ (f - b).toNat := ⟨_, rfl⟩
  have zx : n * 2 ^ (e + 1074).toNat = x * 2 ^ (b + 1074).toNat := by rw [hx]; exact zm_cut (b := b) (by omega) (by omega)
  have zy : k * 2 ^ (f + 1074).toNat = y * 2 ^ (b + 1074).toNat := by rw [hy]; exact zm_cut (b := b) (by omega) (by omega)
  have hp : plusR (.fin s n e g) (.fin t k f h) = plusFin s t x y b := by rw [hx, hy, hb]; rfl
  rw [hp, signed_zm, signed_zm, zx, zy, ← hb]
  clear hp hx hy zx zy hb
  generalize hG : 2 ^ (b + 1074).toNat = G
  have hG0 : 0 < G := by rw [← hG]; exact Nat.two_pow_pos _
  have hz : ∀ N, zm N b = N * G := fun N => by unfold zm; rw [hG]
  unfold plusFin
  have key : ∀ N, N ≠ 0 → 0 < N * G := fun N hN => Nat.mul_pos (by omega) hG0
  by_cases hst : s = t
  · subst hst
    rw [if_pos rfl]
    refine ⟨s, x + y, rfl, ?_, fun hN => ?_⟩
    · rw [hz, Nat.add_mul]; split <;> omega
    · have := key _ hN
      rw [Nat.add_mul] at this
      cases s
      · rw [if_neg (by decide), if_neg (by decide), eq_comm, decide_eq_false_iff_not]; omega
      · rw [if_pos rfl, if_pos rfl, eq_comm, decide_eq_true_iff]; omega
  · rw [if_neg hst]
    by_cases hxy : x = y
    · subst hxy
      rw [if_pos rfl]
      refine ⟨false, 0, rfl, ?_, fun hN => absurd rfl hN⟩
      rw [hz, Nat.zero_mul]
      cases s <;> cases t <;> simp at hst ⊢ <;> omega
    · rw [if_neg hxy]
      by_cases hlt : y < x
      · rw [if_pos hlt]
        have hm : y * G < x * G := Nat.mul_lt_mul_of_pos_right hlt hG0
        refine ⟨s, x - y, rfl, ?_, fun _ => ?_⟩
        · rw [hz, Nat.sub_mul]
          cases s <;> cases t <;> simp at hst ⊢ <;> omega
        · cases s <;> cases t <;> simp at hst ⊢ <;> omega
      · rw [if_neg hlt]
        have hm : x * G < y * G := Nat.mul_lt_mul_of_pos_right (by omega) hG0
        refine ⟨t, y - x, rfl, ?_, fun _ => ?_⟩
        · rw [hz, Nat.sub_mul]
          cases s <;> cases t <;> simp at hst ⊢ <;> omega
        · cases s <;> cases t <;> simp at hst ⊢ <;> omega
/-- How far a sample of the same sign lies away. -/
theorem away_zs (s : Bool) (n k : Nat) (e f : Int) (g h : Bool) (he : -1074 ≤ e) (hf : -1074 ≤ f) : ∃ σ N, plusR (.fin s n e g) (.fin (!s) k f h) = .fin σ N (min e f) false ∧ zm N (min e f) = ((zm k f : Int) - (zm n e : Int)).natAbs := by
  obtain ⟨σ, N, h1, h2, _⟩ := plus_zs s (!s) n k e f g h he hf
  refine ⟨σ, N, h1, ?_⟩
  rw [h2, signed_zm, signed_zm]
  unfold zm
  cases s <;> simp <;> omega
end Go.Proofs.Ytkgojnjlfkijiaa
/- Keys of samples as plain numbers; what Key and FromKey return. -/
namespace Go.Proofs.Ytkgojnjlfkijiaa
open Go.RowKit

def keyN (s : Nat) : Nat := if s < 2147483648 then s + 2147483648 else 4294967295 - s
def fkeyN (k : Nat) : Nat := if 2147483648 ≤ k then k - 2147483648 else 4294967295 - k
theorem keyN_lt {s : Nat} (h : s < 4294967296) : keyN s < 4294967296 := by unfold keyN; split <;> omega
theorem fkeyN_lt {s : Nat} (h : s < 4294967296) : fkeyN s < 4294967296 := by unfold fkeyN; split <;> omega
theorem keyV_N {s : Nat} (h : s < 4294967296) : keyV (s : Int) = (keyN s : Int) := by
  unfold keyN
  by_cases g : s < 2147483648
  · rw [keyV_lo (by omega), if_pos g]; omega
  · rw [keyV_hi (by omega), if_neg g]; omega
theorem keyN_inj {a b : Nat} (ha : a < 4294967296) (hb : b < 4294967296) (h : keyN a = keyN b) : a = b := by
  unfold keyN at h; split at h <;> split at h <;> omega
theorem fkey_key {s : Nat} (h : s < 4294967296) : fkeyN (keyN s) = s := by
  unfold keyN fkeyN; split <;> split <;> omega
theorem key_fkey {k : Nat} (h : k < 4294967296) : keyN (fkeyN k) = k := by
  unfold keyN fkeyN; split <;> split <;> omega

theorem not_hi (k : Int) (h0 : 2147483648 ≤ k) (h1 : k ≤ 4294967295) : bits .andNot .u32 k 2147483648 = k - 2147483648 := by go_bits2
end Go.Proofs.Ytkgojnjlfkijiaa
/- How far rounding is off: plain. -/
namespace Go.Proofs.Ytkgojnjlfkijiaa
open Go.RowKit
set_option linter.unusedVariables false

/-- Rounding to binary64: off by at most one part in 2^53. -/
theorem rne_err {M K : Nat} (h : 0 < K) (hl : M.log2 = K + 52) (h0 : M ≠ 0) : 9007199254740992 * (((rne M K * 2 ^ K : Nat) : Int) - (M : Int)).natAbs ≤ M := by
  obtain ⟨n1, n2⟩ := rne_near M K
  have hlow := Nat.log2_self_le h0
  rw [hl, Nat.pow_add, show (2 : Nat) ^ 52 = 4503599627370496 from rfl] at hlow
  generalize rne M K * 2 ^ K = V at *
  generalize 2 ^ K = P at *
  omega
theorem RN_abs_err (Z : Int) : (RN Z - Z).natAbs = ((val64 (rungOf Ieee.double Z.natAbs (-1074)) : Int) - (Z.natAbs : Int)).natAbs := by
  unfold RN
  generalize val64 (rungOf Ieee.double Z.natAbs (-1074)) = V
  split <;> omega
theorem RN_err {Z : Int} (hs : Z.natAbs.log2 ≤ 2000) : 9007199254740992 * (RN Z - Z).natAbs ≤ Z.natAbs := by
  rw [RN_abs_err, vN_eq hs]
  generalize Z.natAbs = M at *
  rcases Nat.eq_zero_or_pos (lostK M) with h | h
  · rw [h, rne_zero, Nat.pow_zero, Nat.mul_one, Int.sub_self]
    exact Nat.zero_le _
  · refine rne_err h (by unfold lostK at h ⊢; omega) ?_
    intro h0; rw [h0] at h; revert h; decide
/-- Rounding to a sample: off by at most one part in 2^24, or half a least unit. -/
theorem RS_err {M c : Nat} (hc : c = 924) (hr : rungOf Ieee.single M (-1074) < 2139095040) : 16777216 * (((val32 (rungOf Ieee.single M (-1074)) * 2 ^ (c + 1) : Nat) : Int) - (M : Int)).natAbs ≤ M + 16777216 * 2 ^ c := by
  by_cases h0 : M = 0
  · subst h0
    rw [rungOf_zero, val_zero32, Nat.zero_mul]
    show 16777216 * 0 ≤ _
    omega
  · have hc1 : c + 1 = 925 := by omega
    rw [valZ hc1 h0 hr]
    clear hc1
    obtain ⟨n1, n2⟩ := rne_near M (lostZ M)
    rcases Nat.lt_or_ge 925 (lostZ M) with g | g
    · have hl : M.log2 = lostZ M + 23 := by unfold lostZ at g ⊢; omega
      have hlow := Nat.log2_self_le h0
      rw [hl, Nat.pow_add, show (2 : Nat) ^ 23 = 8388608 from rfl] at hlow
      generalize rne M (lostZ M) * 2 ^ lostZ M = V at *
      generalize 2 ^ lostZ M = P at *
      generalize 2 ^ c = R at *
      omega
    · have hl : lostZ M = c + 1 := by have := lostZ_ge M; omega
      rw [hl] at n1 n2 ⊢
      rw [Nat.pow_succ] at n1 n2 ⊢
      generalize rne M (c + 1) * (2 ^ c * 2) = V at *
      generalize 2 ^ c = R at *
      omega
theorem samp_abs {a c : Nat} (hc : c = 925) : (sampleZ a).natAbs = val32 (rung32 a) * 2 ^ c := by
  unfold sampleZ val32
  rw [signed_abs, Nat.pow_add, ← hc, Nat.mul_assoc]
theorem samp_sign {a : Nat} : sampleZ a < 0 ↔ srung32 a < 0 := by
  unfold sampleZ srung32 Ieee.signed
  rw [Nat.shiftLeft_eq]
  cases sgn32 a
  · simp only [Bool.false_eq_true, if_false]
    constructor <;> intro h <;> omega
  · simp only [if_true]
    have hm : 0 < mag32 (rung32 a) * 2 ^ (plc32 (rung32 a) + 925) ↔ 0 < rung32 a := by
      constructor
      · intro h
        rcases Nat.eq_zero_or_pos (rung32 a) with z | z
        · rw [z, show mag32 0 = 0 from by decide, Nat.zero_mul] at h; exact absurd h (Nat.lt_irrefl 0)
        · exact z
      · intro h
        exact Nat.mul_pos (Nat.pos_of_ne_zero (mag_ne32 (Nat.ne_of_gt h))) (Nat.two_pow_pos _)
    generalize mag32 (rung32 a) * 2 ^ (plc32 (rung32 a) + 925) = N at *
    omega
theorem abs_like {A Z : Int} (h : A < 0 ↔ Z < 0) : (A - Z).natAbs = ((A.natAbs : Int) - (Z.natAbs : Int)).natAbs := by
  by_cases k : Z < 0
  · have := h.2 k; omega
  · have : ¬ A < 0 := fun k' => k (h.1 k')
    omega
theorem abs_zero {A Z : Int} (h : A = 0) : (A - Z).natAbs = ((A.natAbs : Int) - (Z.natAbs : Int)).natAbs := by omega
theorem RS_sign {Z : Int} (h : RS Z ≠ 0) : RS Z < 0 ↔ Z < 0 := by
  unfold RS at *
  split at h
  · rename_i k
    rw [if_pos k]
    constructor
    · intro _; exact k
    · intro _; omega
  · rename_i k
    rw [if_neg k]
    constructor
    · intro _; omega
    · intro k'; exact absurd k' k
/-- A sample that is Z rounded: its units. -/
theorem samp_err {a : Nat} {Z : Int} {c : Nat} (hc : c = 924) (h : srung32 a = RS Z) (hf : rungOf Ieee.single Z.natAbs (-1074) < 2139095040) : rung32 a < 2139095040 ∧ 16777216 * (sampleZ a - Z).natAbs ≤ Z.natAbs + 16777216 * 2 ^ c := by
  have hr : rung32 a = rungOf Ieee.single Z.natAbs (-1074) := by
    have h' := h
    unfold srung32 RS at h'
    generalize rungOf Ieee.single Z.natAbs (-1074) = R at *
    cases g : sgn32 a <;> rw [g] at h' <;> simp only [Bool.false_eq_true, if_false, if_true] at h' <;> split at h' <;> omega
  refine ⟨by rw [hr]; exact hf, ?_⟩
  have e := RS_err hc hf
  rw [← hr, ← samp_abs (a := a) (c := c + 1) (by omega)] at e
  have e3 : (sampleZ a - Z).natAbs = (((sampleZ a).natAbs : Int) - (Z.natAbs : Int)).natAbs := by
    by_cases z : srung32 a = 0
    · refine abs_zero ?_
      have h0 : rung32 a = 0 := by unfold srung32 at z; split at z <;> omega
      have := samp_abs (a := a) (c := c + 1) (by omega)
      rw [h0, val_zero32, Nat.zero_mul] at this
      exact Int.natAbs_eq_zero.1 this
    · refine abs_like (samp_sign.trans ?_)
      rw [h]
      exact RS_sign (by rw [← h]; exact z)
  rw [e3]; exact e
end Go.Proofs.Ytkgojnjlfkijiaa
