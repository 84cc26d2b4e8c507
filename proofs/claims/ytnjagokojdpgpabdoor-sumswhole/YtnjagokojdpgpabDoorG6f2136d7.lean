/- What the reference's PlusNum returns: the exact sum. -/
import Derived.Test.YtnjagokojdpgpabDoorG264d73a3
import Derived.Test.YtnjagokojdpgpabDoorGa6563b85
namespace Go.Proofs.YtnjagokojdpgpabDoor
open Go.RowKit

/-- The exact sum. -/
def plusFin (s t : Bool) (x y : Nat) (b : Int) : RNum :=
  if s = t then .fin s (x + y) b false
  else if x = y then .fin false 0 b false
  else if y < x then .fin s (x - y) b false
  else .fin t (y - x) b false
def plusR : RNum → RNum → RNum
  | ⟨none⟩, _ => .nan
  | ⟨some (.inl _)⟩, ⟨none⟩ => .nan
  | ⟨some (.inr _)⟩, ⟨none⟩ => .nan
  | ⟨some (.inl s)⟩, ⟨some (.inl t)⟩ => if s = t then .inf s else .nan
  | ⟨some (.inl s)⟩, ⟨some (.inr _)⟩ => .inf s
  | ⟨some (.inr _)⟩, ⟨some (.inl t)⟩ => .inf t
  | ⟨some (.inr (s, n, e, _))⟩, ⟨some (.inr (t, m, f, _))⟩ => plusFin s t (n * 2 ^ (e - min e f).toNat) (m * 2 ^ (f - min e f).toNat) (min e f)
/-- Numbers that PlusNum takes. -/
def small : RNum → Prop
  | ⟨some (.inr (_, n, e, _))⟩ => blen n ≤ 2000 ∧ -2000 ≤ e ∧ e ≤ 2000
  | _ => True

/-- The cells that PlusNum reads and writes behind the shifts. -/
structure PBox (w wc : World) (s t : Bool) : Prop where
  q : Q w wc
  a1 : wc.cell? ⟨w.heap.size, 1, none⟩ = some (.bool s)
  b1 : wc.cell? ⟨w.heap.size + 1, 1, none⟩ = some (.bool t)
  r : Res5 wc (w.heap.size + 1 + 1)
theorem PBox.next {w wc wd : World} {s t : Bool} (h : PBox w wc s t) (q : Q wc wd) : PBox w wd s t :=
  ⟨h.q.trans q, q.cell h.a1, q.cell h.b1, h.r.next q⟩

set_option maxHeartbeats 4000000 in
set_option maxRecDepth 1000000 in
theorem plus_odd (va vb : Value) (x y : RNum) (w : World) (hx : NumAt w va x) (hy : NumAt w vb y) (hne : ∀ s n e m t k f g, ¬ (x = .fin s n e m ∧ y = .fin t k f g)) :
    Calls Tryd.prog 20 #[va, vb] w fun e w' => ∃ v, e = .returned v ∧ NumAt w' v (plusR x y) ∧ Q w w' := by
  cases x using RNum.rec3 with
  | nan =>
    obtain ⟨b, e, m, rfl⟩ := hx
    obtain ⟨k, s, p, L, C, ee, mm, rfl⟩ := hy.made
    clear hy hne
    go_enter Tryd.func20, Tryd.ntmps20
    go_wp2_with fail
    refine bodyPost_ret (v := .agg #[.int .i64 0, .bool false, .slice none 0 0, .int .i64 0, .bool false]) (by simp [results, Tryd.results20, go_sem]) rfl ⟨_, rfl, ⟨_, _, _, rfl⟩, ?_⟩
    exact (((Q.refl w).cells _ _).cells _ _).cells _ _
  | inf s =>
    obtain ⟨e, m, rfl⟩ := hx
    cases y using RNum.rec3 with
    | nan =>
      obtain ⟨b, e', m', rfl⟩ := hy
      go_enter Tryd.func20, Tryd.ntmps20
      go_wp2_with fail
      refine bodyPost_ret (v := .agg #[.int .i64 0, .bool false, .slice none 0 0, .int .i64 0, .bool false]) (by simp [results, Tryd.results20, go_sem]) rfl ⟨_, rfl, ⟨_, _, _, rfl⟩, ?_⟩
      exact (((Q.refl w).cells _ _).cells _ _).cells _ _
    | inf t =>
      obtain ⟨e', m', rfl⟩ := hy
      clear hne
      cases s <;> cases t
      · go_enter Tryd.func20, Tryd.ntmps20
        go_wp2_with fail
        refine bodyPost_ret (v := .agg #[.int .i64 1, .bool false, .slice none 0 0, .int .i64 e, .bool m]) (by simp [results, Tryd.results20, go_sem]) rfl ⟨_, rfl, ⟨_, _, rfl⟩, ?_⟩
        exact (((Q.refl w).cells _ _).cells _ _).cells _ _
      · go_enter Tryd.func20, Tryd.ntmps20
        go_wp2_with fail
        refine bodyPost_ret (v := .agg #[.int .i64 0, .bool false, .slice none 0 0, .int .i64 0, .bool false]) (by simp [results, Tryd.results20, go_sem]) rfl ⟨_, rfl, ⟨_, _, _, rfl⟩, ?_⟩
        exact (((Q.refl w).cells _ _).cells _ _).cells _ _
      · go_enter Tryd.func20, Tryd.ntmps20
        go_wp2_with fail
        refine bodyPost_ret (v := .agg #[.int .i64 0, .bool false, .slice none 0 0, .int .i64 0, .bool false]) (by simp [results, Tryd.results20, go_sem]) rfl ⟨_, rfl, ⟨_, _, _, rfl⟩, ?_⟩
        exact (((Q.refl w).cells _ _).cells _ _).cells _ _
      · go_enter Tryd.func20, Tryd.ntmps20
        go_wp2_with fail
        refine bodyPost_ret (v := .agg #[.int .i64 1, .bool true, .slice none 0 0, .int .i64 e, .bool m]) (by simp [results, Tryd.results20, go_sem]) rfl ⟨_, rfl, ⟨_, _, rfl⟩, ?_⟩
        exact (((Q.refl w).cells _ _).cells _ _).cells _ _
    | fin t k f g =>
      obtain ⟨nv, rfl, p, b, L, C, rfl, hn⟩ := hy
      clear hne
      go_enter Tryd.func20, Tryd.ntmps20
      go_wp2_with fail
      refine bodyPost_ret (v := .agg #[.int .i64 1, .bool s, .slice none 0 0, .int .i64 e, .bool m]) (by simp [results, Tryd.results20, go_sem]) rfl ⟨_, rfl, ⟨_, _, rfl⟩, ?_⟩
      exact (((Q.refl w).cells _ _).cells _ _).cells _ _
  | fin s n e m =>
    obtain ⟨nv, rfl, p, b, L, C, rfl, hn⟩ := hx
    cases y using RNum.rec3 with
    | nan =>
      obtain ⟨b', e', m', rfl⟩ := hy
      clear hne
      go_enter Tryd.func20, Tryd.ntmps20
      go_wp2_with fail
      refine bodyPost_ret (v := .agg #[.int .i64 0, .bool false, .slice none 0 0, .int .i64 0, .bool false]) (by simp [results, Tryd.results20, go_sem]) rfl ⟨_, rfl, ⟨_, _, _, rfl⟩, ?_⟩
      exact (((Q.refl w).cells _ _).cells _ _).cells _ _
    | inf t =>
      obtain ⟨e', m', rfl⟩ := hy
      clear hne
      go_enter Tryd.func20, Tryd.ntmps20
      go_wp2_with fail
      refine bodyPost_ret (v := .agg #[.int .i64 1, .bool t, .slice none 0 0, .int .i64 e', .bool m']) (by simp [results, Tryd.results20, go_sem]) rfl ⟨_, rfl, ⟨_, _, rfl⟩, ?_⟩
      exact (((Q.refl w).cells _ _).cells _ _).cells _ _
    | fin t k f g => exact absurd ⟨rfl, rfl⟩ (hne s n e m t k f g)

theorem far2 (w : World) : w.heap.size ≤ w.heap.size + 1 + 1 := by omega
theorem far3 (w : World) : (⟨w.heap.size, 1, none⟩ : Addr).block ≠ w.heap.size + 1 + 1 := by show w.heap.size ≠ _; omega
theorem far4 (w : World) : (⟨w.heap.size + 1, 1, none⟩ : Addr).block ≠ w.heap.size + 1 + 1 := by show w.heap.size + 1 ≠ _; omega
theorem add_cap {x y : Nat} (hx : x < 2 ^ 6000) (hy : y < 2 ^ 6000) : x + y < cap := by
  obtain ⟨j, hj⟩ : ∃ j, j = 6000 := ⟨_, rfl⟩
  rw [← hj] at hx hy
  exact lt_cap (k := j + 1) (by rw [Nat.pow_succ]; omega) (by omega)
theorem shifted_lt {k : Nat} (n d : Nat) (h : blen n + d ≤ k) : n * 2 ^ d < 2 ^ k := by
  have h1 : n * 2 ^ d < 2 ^ blen n * 2 ^ d := Nat.mul_lt_mul_of_pos_right (blen_lt n) (Nat.two_pow_pos d)
  rw [← Nat.pow_add] at h1
  exact Nat.lt_of_lt_of_le h1 (Nat.pow_le_pow_right (by decide) h)

set_option maxHeartbeats 8000000 in
set_option maxRecDepth 1000000 in
theorem plus_fin (s t m m' : Bool) (va vb : Value) (n k : Nat) (e f : Int) (w : World) (hn : NatAt w va n) (hk : NatAt w vb k)
    (n1 : blen n ≤ 2000) (e0 : -2000 ≤ e) (e1 : e ≤ 2000) (k1 : blen k ≤ 2000) (f0 : -2000 ≤ f) (f1 : f ≤ 2000) :
    Calls Tryd.prog 20 #[.agg #[.int .i64 2, .bool s, va, .int .i64 e, .bool m], .agg #[.int .i64 2, .bool t, vb, .int .i64 f, .bool m']] w
      fun x w' => ∃ v, x = .returned v ∧ NumAt w' v (plusFin s t (n * 2 ^ (e - min e f).toNat) (k * 2 ^ (f - min e f).toNat) (min e f)) ∧ Q w w' := by
  obtain ⟨b, hb⟩ : ∃ b, b = min e f := ⟨_, rfl⟩
  rw [← hb]
  obtain ⟨da, hda⟩ : ∃ da : Nat, da = (e - b).toNat := ⟨_, rfl⟩
  obtain ⟨db, hdb⟩ : ∃ db : Nat, db = (f - b).toNat := ⟨_, rfl⟩
  rw [← hda, ← hdb]
  have ea : e - b = (da : Int) := by omega
  have eb : f - b = (db : Int) := by omega
  have b0 : -2000 ≤ b := by omega
  have b1 : b ≤ 2000 := by omega
  have hda4 : da ≤ 4000 := by omega
  have hdb4 : db ≤ 4000 := by omega
  have wa : IntKind.i64.wrap (da : Int) = (da : Int) := by rw [IntKind.wrap_i64]; omega
  have wb : IntKind.i64.wrap (db : Int) = (db : Int) := by rw [IntKind.wrap_i64]; omega
  have hcx := shifted_lt (k := 6000) n da (by omega)
  have hcy := shifted_lt (k := 6000) k db (by omega)
  obtain ⟨X, hX⟩ : ∃ X, X = n * 2 ^ da := ⟨_, rfl⟩
  obtain ⟨Y, hY⟩ : ∃ Y, Y = k * 2 ^ db := ⟨_, rfl⟩
  have hcap1 : Hid (n * 2 ^ da < cap) := lt_cap hcx (by decide)
  have hcap2 : Hid (k * 2 ^ db < cap) := lt_cap hcy (by decide)
  have hcap3 : Hid (X + Y < cap) := by
    show X + Y < cap
    rw [hX, hY]
    exact add_cap hcx hcy
  rw [← hX, ← hY]
  have HX : Hid _ := hX
  have HY : Hid _ := hY
  have HBM : Hid _ := hb
  clear hcx hcy hX hY hda hdb
  obtain ⟨pa, ba, La, Ca, rfl, hnI⟩ := hn
  obtain ⟨pb, bb, Lb, Cb, rfl, hkI⟩ := hk
  have HNA : Hid (NatAt w (.slice pa La Ca) n) := ⟨pa, ba, La, Ca, rfl, hnI⟩
  have HKA : Hid (NatAt w (.slice pb Lb Cb) k) := ⟨pb, bb, Lb, Cb, rfl, hkI⟩
  clear hnI hkI hb
  go_enter Tryd.func20, Tryd.ntmps20
  go_upto_region 7 with fail
  go_cut [5] from 9 (fun s5 wc => s5 = .int .i64 b ∧ wc.cell? ⟨w.heap.size, 2, none⟩ = some (.slice pa La Ca) ∧ wc.cell? ⟨w.heap.size, 3, none⟩ = some (.int .i64 e) ∧ wc.cell? ⟨w.heap.size + 1, 2, none⟩ = some (.slice pb Lb Cb) ∧ wc.cell? ⟨w.heap.size + 1, 3, none⟩ = some (.int .i64 f) ∧ PBox w wc s t)
  case first =>
    go_wp2_with fail
    all_goals
      go_meet
      case rel =>
        go_light
        refine ⟨congrArg (Value.int .i64) (by have := HBM.out; omega), by simp [go_sem], by simp [go_sem], by simp [go_sem], by simp [go_sem], (((Q.refl w).cells _ _).cells _ _).cells _ _, by simp [go_sem], by simp [go_sem], ⟨by simp [go_sem], by simp [go_sem], by simp [go_sem], by simp [go_sem], by simp [go_sem], fun i => by simp [go_sem]⟩⟩
  case rest =>
    obtain ⟨rfl, a2, a3, c2, c3, hB⟩ := hcut
    go_upto_region 8 with fail
    go_cut [6, 7] from 9 (fun s6 s7 wd => NatAt wd s6 X ∧ NatAt wd s7 Y ∧ PBox w wd s t)
    case first =>
      go_region_held3 (fun w' => w'.cell? ⟨w.heap.size, 2, none⟩ = some (.slice pa La Ca) ∧ w'.cell? ⟨w.heap.size, 3, none⟩ = some (.int .i64 e) ∧ w'.cell? ⟨w.heap.size + 1, 2, none⟩ = some (.slice pb Lb Cb) ∧ w'.cell? ⟨w.heap.size + 1, 3, none⟩ = some (.int .i64 f)) (first | (refine ⟨?_, ?_, ?_, ?_⟩ <;> assumption) | (simp [a2, a3, c2, c3]; done) | go_keep) (first | (go_at_call_of 44 (Value.slice pa La Ca); refine (up_any _ n da _ (Q.nat hB.q.drew HNA.out) hcap1.out).mono ?_; rintro x w1 ⟨v1, rfl, hv1, q1⟩; have g2 := q1.cell (p := ⟨w.heap.size, 2, none⟩) a2; have g3 := q1.cell (p := ⟨w.heap.size, 3, none⟩) a3; have g4 := q1.cell (p := ⟨w.heap.size + 1, 2, none⟩) c2; have g5 := q1.cell (p := ⟨w.heap.size + 1, 3, none⟩) c3) | (go_at_call_of 44 (Value.slice pb Lb Cb); refine (up_any _ k db _ (Q.nat (hB.q.drew.trans q1) HKA.out) hcap2.out).mono ?_; rintro x w2 ⟨v2, rfl, hv2, q2⟩; have h2 := q2.cell g2; have h3 := q2.cell g3; have h4 := q2.cell g4; have h5 := q2.cell g5))
      all_goals
        go_wp2_with fail
        go_meet
        case rel =>
          go_light
          exact ⟨by rw [HX.out]; exact q2.nat hv1, by rw [HY.out]; exact hv2, ((hB.next (Q.refl _).drew).next q1).next q2⟩
    case rest =>
      obtain ⟨h6, h7, hB2⟩ := hcut
      have a1 := hB2.a1
      have b1 := hB2.b1
      have H6 : Hid _ := h6
      have H7 : Hid _ := h7
      clear ea eb wa wb a2 a3 c2 c3 h6 h7
      cases hst : (s == t)
      · have hne : s ≠ t := by simpa using hst
        go_wp2_with fail
        refine (compare_any _ _ X Y _ H6.out H7.out).mono ?_
        rintro x w3 ⟨rfl, q3⟩
        have hB3 := hB2.next q3
        have a1 := hB3.a1
        have b1 := hB3.b1
        have J6 : Hid _ := q3.nat H6.out
        have J7 : Hid _ := q3.nat H7.out
        clear hB2
        rcases Nat.lt_trichotomy X Y with hc | hc | hc
        · have ec : cmpV X Y = -1 := by unfold cmpV; rw [if_pos hc]
          rw [ec]
          have HC : Hid _ := hc
          clear ec hc
          go_wp2_with fail
          go_region_with (first | (go_at_call 47; refine (minus_any _ _ Y X _ (Q.nat (Q.refl _).drew J7.out) (Q.nat (Q.refl _).drew J6.out) (Nat.lt_of_le_of_lt (Nat.le_add_left _ _) hcap3.out) (Nat.le_of_lt HC.out)).mono ?_; rintro x w4 ⟨v4, rfl, hv4, q4⟩; obtain ⟨p4, b4, L4, C4, rfl, hI4⟩ := hv4; have n1 := q4.cell (p := ⟨w.heap.size + 1, 1, none⟩) b1; have R := hB3.r.next ((Q.refl _).drew.trans q4); have d0 := R.c0; have d1 := R.c1; have d2 := R.c2; have d3 := R.c3; have d4 := R.c4; have y0 := R.z 0; have y1 := R.z 1; have y2 := R.z 2; have y3 := R.z 3; have y4 := R.z 4))
          all_goals
            go_wp2_with fail
            refine bodyPost_ret (v := .agg #[.int .i64 2, .bool t, .slice p4 L4 C4, .int .i64 b, .bool false]) (by simp [results, Tryd.results20, go_sem, d0, d1, d2, d3, d4]) rfl ⟨_, rfl, ?_, ?_⟩
            · rw [show plusFin s t X Y b = .fin t (Y - X) b false from by have := HC.out; unfold plusFin; rw [if_neg hne, if_neg (by omega), if_neg (by omega)]]
              exact ⟨_, rfl, natAt_but ⟨p4, b4, L4, C4, rfl, hI4⟩ d0 (fun a ha => by repeat rw [set_but _ ha])⟩
            · exact ((((((hB3.q.drew).trans q4).set (far2 w) _).set (far2 w) _).set (far2 w) _).set (far2 w) _).set (far2 w) _
        · have ec : cmpV X Y = 0 := by unfold cmpV; rw [if_neg (by omega), if_pos hc]
          rw [ec]
          have HC : Hid _ := hc
          clear ec hc
          have d0 := hB3.r.c0
          have d1 := hB3.r.c1
          have d2 := hB3.r.c2
          have d3 := hB3.r.c3
          have d4 := hB3.r.c4
          have y0 := hB3.r.z 0
          have y1 := hB3.r.z 1
          have y2 := hB3.r.z 2
          have y3 := hB3.r.z 3
          have y4 := hB3.r.z 4
          go_wp2_with fail
          refine bodyPost_ret (v := .agg #[.int .i64 2, .bool false, .slice none 0 0, .int .i64 b, .bool false]) (by simp [results, Tryd.results20, go_sem, d0, d1, d2, d3, d4]) rfl ⟨_, rfl, ?_, ?_⟩
          · rw [show plusFin s t X Y b = .fin false 0 b false from by unfold plusFin; rw [if_neg hne, if_pos HC.out]]
            exact ⟨_, rfl, nat_nil _⟩
          · exact ((((hB3.q.set (far2 w) _).set (far2 w) _).set (far2 w) _).set (far2 w) _).set (far2 w) _
        · have ec : cmpV X Y = 1 := by unfold cmpV; rw [if_neg (by omega), if_neg (by omega)]
          rw [ec]
          have HC : Hid _ := hc
          clear ec hc
          go_wp2_with fail
          go_region_with (first | (go_at_call 47; refine (minus_any _ _ X Y _ (Q.nat (Q.refl _).drew J6.out) (Q.nat (Q.refl _).drew J7.out) (Nat.lt_of_le_of_lt (Nat.le_add_right _ _) hcap3.out) (Nat.le_of_lt HC.out)).mono ?_; rintro x w4 ⟨v4, rfl, hv4, q4⟩; obtain ⟨p4, b4, L4, C4, rfl, hI4⟩ := hv4; have n1 := q4.cell (p := ⟨w.heap.size, 1, none⟩) a1; have R := hB3.r.next ((Q.refl _).drew.trans q4); have d0 := R.c0; have d1 := R.c1; have d2 := R.c2; have d3 := R.c3; have d4 := R.c4; have y0 := R.z 0; have y1 := R.z 1; have y2 := R.z 2; have y3 := R.z 3; have y4 := R.z 4))
          all_goals
            go_wp2_with fail
            refine bodyPost_ret (v := .agg #[.int .i64 2, .bool s, .slice p4 L4 C4, .int .i64 b, .bool false]) (by simp [results, Tryd.results20, go_sem, d0, d1, d2, d3, d4]) rfl ⟨_, rfl, ?_, ?_⟩
            · rw [show plusFin s t X Y b = .fin s (X - Y) b false from by have := HC.out; unfold plusFin; rw [if_neg hne, if_neg (by omega), if_pos this]]
              exact ⟨_, rfl, natAt_but ⟨p4, b4, L4, C4, rfl, hI4⟩ d0 (fun a ha => by repeat rw [set_but _ ha])⟩
            · exact ((((((hB3.q.drew).trans q4).set (far2 w) _).set (far2 w) _).set (far2 w) _).set (far2 w) _).set (far2 w) _
      · have heq : s = t := by simpa using hst
        subst heq
        clear hst
        go_wp2_with fail
        go_region_with (first | (go_at_call 45; refine (plus_any _ _ X Y _ (Q.nat (Q.refl _).drew H6.out) (Q.nat (Q.refl _).drew H7.out) hcap3.out).mono ?_; rintro x w4 ⟨v4, rfl, hv4, q4⟩; obtain ⟨p4, b4, L4, C4, rfl, hI4⟩ := hv4; have n1 := q4.cell (p := ⟨w.heap.size, 1, none⟩) a1; have R := hB2.r.next ((Q.refl _).drew.trans q4); have d0 := R.c0; have d1 := R.c1; have d2 := R.c2; have d3 := R.c3; have d4 := R.c4; have y0 := R.z 0; have y1 := R.z 1; have y2 := R.z 2; have y3 := R.z 3; have y4 := R.z 4))
        all_goals
          go_wp2_with fail
          refine bodyPost_ret (v := .agg #[.int .i64 2, .bool s, .slice p4 L4 C4, .int .i64 b, .bool false]) (by simp [results, Tryd.results20, go_sem, d0, d1, d2, d3, d4]) rfl ⟨_, rfl, ?_, ?_⟩
          · rw [show plusFin s s X Y b = .fin s (X + Y) b false from by unfold plusFin; rw [if_pos rfl]]
            exact ⟨_, rfl, natAt_but ⟨p4, b4, L4, C4, rfl, hI4⟩ d0 (fun a ha => by repeat rw [set_but _ ha])⟩
          · exact ((((((hB2.q.drew).trans q4).set (far2 w) _).set (far2 w) _).set (far2 w) _).set (far2 w) _).set (far2 w) _

theorem plusnum_any (va vb : Value) (x y : RNum) (w : World) (hx : NumAt w va x) (hy : NumAt w vb y) (sx : small x) (sy : small y) :
    Calls Tryd.prog 20 #[va, vb] w fun e w' => ∃ v, e = .returned v ∧ NumAt w' v (plusR x y) ∧ Q w w' := by
  cases x using RNum.rec3 with
  | fin s n e m =>
    cases y using RNum.rec3 with
    | fin t k f g =>
      obtain ⟨nv, rfl, hn⟩ := hx
      obtain ⟨kv, rfl, hk⟩ := hy
      exact plus_fin s t m g nv kv n k e f w hn hk sx.1 sx.2.1 sx.2.2 sy.1 sy.2.1 sy.2.2
    | nan => exact plus_odd va vb _ _ w hx hy (fun _ _ _ _ _ _ _ _ h => by cases h.2)
    | inf t => exact plus_odd va vb _ _ w hx hy (fun _ _ _ _ _ _ _ _ h => by cases h.2)
  | nan => exact plus_odd va vb _ _ w hx hy (fun _ _ _ _ _ _ _ _ h => by cases h.1)
  | inf s => exact plus_odd va vb _ _ w hx hy (fun _ _ _ _ _ _ _ _ h => by cases h.1)
end Go.Proofs.YtnjagokojdpgpabDoor
/- What the reference's Zero and TimesNum return: the exact product. -/
namespace Go.Proofs.YtnjagokojdpgpabDoor
open Go.RowKit

def zeroB : RNum → Bool
  | ⟨some (.inr (_, n, _, m))⟩ => decide (n = 0) && !m
  | _ => false
set_option maxHeartbeats 1000000 in
theorem zero_any (v : Value) (x : RNum) (w : World) (hx : NumAt w v x) :
    Calls Tryd.prog 19 #[v] w fun e w' => e = .returned (.bool (zeroB x)) ∧ ∃ c, w' = w.alloc (.cells c 38) := by
  cases x using RNum.rec3 with
  | nan =>
    obtain ⟨b, e, m, rfl⟩ := hx
    go_enter Tryd.func19, Tryd.ntmps19
    go_wp2
    go_ret
    exact ⟨rfl, _, rfl⟩
  | inf s =>
    obtain ⟨e, m, rfl⟩ := hx
    go_enter Tryd.func19, Tryd.ntmps19
    go_wp2
    go_ret
    exact ⟨rfl, _, rfl⟩
  | fin s n e m =>
    obtain ⟨nv, rfl, p, b, L, C, rfl, hn⟩ := hx
    have hz := hn.pos
    by_cases h : L = 0
    · subst h
      have h0 : n = 0 := hz.2 rfl
      cases m
      all_goals
        go_enter Tryd.func19, Tryd.ntmps19
        go_wp2
        go_ret
        exact ⟨ret_bool (by first | rfl | (rw [h0]; rfl)), _, rfl⟩
    · have hb : ((L : Int) == 0) = false := by simp; omega
      have h0 : n ≠ 0 := fun g => h (hz.1 g)
      have H0 : Hid _ := h0
      clear hz h0
      go_enter Tryd.func19, Tryd.ntmps19
      go_wp2
      go_ret
      exact ⟨ret_bool (by show false = (decide (n = 0) && !m); rw [decide_eq_false H0.out]; rfl), _, rfl⟩

/-- The cells that TimesNum reads and writes. -/
structure TBox (w wc : World) (va vb : Value) (e f : Int) : Prop where
  q : Q w wc
  a2 : wc.cell? ⟨w.heap.size, 2, none⟩ = some va
  a3 : wc.cell? ⟨w.heap.size, 3, none⟩ = some (.int .i64 e)
  b2 : wc.cell? ⟨w.heap.size + 1, 2, none⟩ = some vb
  b3 : wc.cell? ⟨w.heap.size + 1, 3, none⟩ = some (.int .i64 f)
  r : Res5 wc (w.heap.size + 1 + 1)
theorem TBox.next {w wc wd : World} {va vb : Value} {e f : Int} (h : TBox w wc va vb e f) (q : Q wc wd) : TBox w wd va vb e f :=
  ⟨h.q.trans q, q.cell h.a2, q.cell h.a3, q.cell h.b2, q.cell h.b3, h.r.next q⟩

/-- A product, digit by digit. -/
theorem prod_step (n k i : Nat) : n * (k % 4294967296 ^ (i + 1)) = n * (k % 4294967296 ^ i) + n * dig k i * 2 ^ (32 * i) := by
  unfold dig
  rw [Nat.pow_succ, Nat.mod_mul, Nat.mul_add, ← base_pow, Nat.mul_comm (4294967296 ^ i), ← Nat.mul_assoc]

/-- The exact product. -/
def timesR : RNum → RNum → RNum
  | ⟨none⟩, _ => .nan
  | ⟨some (.inl _)⟩, ⟨none⟩ => .nan
  | ⟨some (.inr _)⟩, ⟨none⟩ => .nan
  | ⟨some (.inl s)⟩, ⟨some (.inl t)⟩ => .inf (s != t)
  | ⟨some (.inl s)⟩, ⟨some (.inr (t, n, e, m))⟩ => if zeroB (.fin t n e m) = true then .nan else .inf (s != t)
  | ⟨some (.inr (s, n, e, m))⟩, ⟨some (.inl t)⟩ => if zeroB (.fin s n e m) = true then .nan else .inf (s != t)
  | ⟨some (.inr (s, n, e, _))⟩, ⟨some (.inr (t, k, f, _))⟩ => .fin (s != t) (n * k) (e + f) false

end Go.Proofs.YtnjagokojdpgpabDoor
/- What the reference's DivNum returns of two numbers that are not 0: the quotient to 60 digits and more, and whether something is left. -/
namespace Go.Proofs.YtnjagokojdpgpabDoor
open Go.RowKit

/-- By how much the dividend is shifted. -/
def shV (n k : Nat) : Nat := 60 + (blen k - blen n)
theorem div_start {A d : Nat} (hd : 0 < d) (h : blen d ≤ blen A) : A < d * 2 ^ (blen A - blen d + 1) := by
  have h1 := blen_lt A
  have h2 : 2 ^ (blen d - 1) ≤ d := by
    unfold blen
    rw [if_neg (by omega)]
    exact Nat.log2_self_le (by omega)
  have h3 : 0 < blen d := by unfold blen; rw [if_neg (by omega)]; omega
  have h4 : 2 ^ (blen d - 1) * 2 ^ (blen A - blen d + 1) ≤ d * 2 ^ (blen A - blen d + 1) := Nat.mul_le_mul_right _ h2
  rw [← Nat.pow_add, show blen d - 1 + (blen A - blen d + 1) = blen A by omega] at h4
  omega
theorem div_step {rest d g : Nat} (h : rest < d * 2 ^ (g + 1)) (hge : d * 2 ^ g ≤ rest) : rest - d * 2 ^ g < d * 2 ^ g := by
  rw [Nat.pow_succ, ← Nat.mul_assoc] at h
  omega
theorem div_end {A d q rest : Nat} (h : rest + d * q = A) (hr : rest < d * 2 ^ 0) : q = A / d ∧ rest = A % d := by
  rw [Nat.pow_zero, Nat.mul_one] at hr
  have hd : 0 < d := by omega
  constructor
  · rw [← h, Nat.add_mul_div_left _ _ hd, Nat.div_eq_of_lt hr, Nat.zero_add]
  · rw [← h, Nat.add_mul_mod_self_left, Nat.mod_eq_of_lt hr]
theorem blen_mul_pow {n : Nat} (h : n ≠ 0) (k : Nat) : blen (n * 2 ^ k) = blen n + k := by
  unfold blen
  rw [if_neg h, if_neg (Nat.mul_ne_zero h (by have := Nat.two_pow_pos k; omega)), log2_mul_pow h]
  omega

end Go.Proofs.YtnjagokojdpgpabDoor
/- What the reference's DivNum returns where one of the two is no finite number, or is 0. -/
namespace Go.Proofs.YtnjagokojdpgpabDoor
open Go.RowKit

end Go.Proofs.YtnjagokojdpgpabDoor
/- What the reference's Add, Scale and Half return of whatever samples: the exact number, rounded. -/
namespace Go.Proofs.YtnjagokojdpgpabDoor
open Go.RowKit

/-- Numbers of middling size. -/
def mid : RNum → Prop
  | ⟨some (.inr (_, n, e, m))⟩ => blen n ≤ 1000 ∧ -1000 ≤ e ∧ e ≤ 1000 ∧ m = false
  | _ => True
theorem mid_small {x : RNum} (h : mid x) : small x := by
  cases x using RNum.rec3 with
  | fin s n e m => exact ⟨by have := h.1; omega, by have := h.2.1; omega, by have := h.2.2.1; omega⟩
  | nan => exact trivial
  | inf s => exact trivial
theorem numOf_cases (b : Nat) : numOf Ieee.single b = .nan ∨ (∃ s, numOf Ieee.single b = .inf s) ∨ ∃ s n e, numOf Ieee.single b = .fin s n e false ∧ n < 16777216 ∧ -149 ≤ e ∧ e ≤ 104 := by
  have hx : b / 8388608 % 256 < 256 := Nat.mod_lt _ (by decide)
  by_cases h1 : b / 8388608 % 256 = 255
  · by_cases h2 : b % 8388608 = 0
    · exact Or.inr (Or.inl ⟨_, numOf_inf h1 h2⟩)
    · exact Or.inl (numOf_nan h1 h2)
  · by_cases h3 : b / 8388608 % 256 = 0
    · exact Or.inr (Or.inr ⟨_, _, _, numOf_small h3, by omega, by omega, by omega⟩)
    · exact Or.inr (Or.inr ⟨_, _, _, numOf_norm h3 h1, by omega, by omega, by omega⟩)
theorem numOf_mid (b : Nat) : mid (numOf Ieee.single b) := by
  rcases numOf_cases b with h | ⟨s, h⟩ | ⟨s, n, e, h, hn, h0, h1⟩
  · rw [h]; exact trivial
  · rw [h]; exact trivial
  · rw [h]
    have : blen n ≤ 24 := blen_le hn
    exact ⟨by omega, by omega, by omega, rfl⟩
theorem blen_shifted {k : Nat} (n d : Nat) (h : blen n + d ≤ k) : blen (n * 2 ^ d) ≤ k := blen_le (shifted_lt n d h)
theorem plusFin_fits {s t : Bool} {x y : Nat} {b : Int} (hx : blen x ≤ 3000) (hy : blen y ≤ 3000) (b0 : -1000 ≤ b) (b1 : b ≤ 1000) : fits (plusFin s t x y b) := by
  have gx := blen_lt x
  have gy := blen_lt y
  obtain ⟨j, hj⟩ : ∃ j, j = 3000 := ⟨_, rfl⟩
  have px : 2 ^ blen x ≤ 2 ^ j := Nat.pow_le_pow_right (by decide) (by omega)
  have py : 2 ^ blen y ≤ 2 ^ j := Nat.pow_le_pow_right (by decide) (by omega)
  have key : ∀ z, z ≤ x + y → blen z ≤ 6000 := fun z hz => by
    have : z < 2 ^ (j + 1) := by rw [Nat.pow_succ]; omega
    have := blen_le this
    omega
  unfold plusFin
  split
  · exact ⟨key _ (by omega), by omega, by omega, fun h => by cases h⟩
  · split
    · exact ⟨key _ (by omega), by omega, by omega, fun h => by cases h⟩
    · split
      · exact ⟨key _ (by omega), by omega, by omega, fun h => by cases h⟩
      · exact ⟨key _ (by omega), by omega, by omega, fun h => by cases h⟩
theorem plusR_fits {x y : RNum} (hx : mid x) (hy : mid y) : fits (plusR x y) := by
  cases x using RNum.rec3 with
  | nan => exact trivial
  | inf s =>
    cases y using RNum.rec3 with
    | nan => exact trivial
    | inf t => show fits (if s = t then .inf s else .nan); split <;> exact trivial
    | fin t k f g => exact trivial
  | fin s n e m =>
    cases y using RNum.rec3 with
    | nan => exact trivial
    | inf t => exact trivial
    | fin t k f g =>
      obtain ⟨n1, e0, e1, _⟩ := hx
      obtain ⟨k1, f0, f1, _⟩ := hy
      refine plusFin_fits ?_ ?_ (by omega) (by omega)
      · exact blen_shifted n _ (by omega)
      · exact blen_shifted k _ (by omega)

/-- Times 2^d. -/
def scaleR (d : Int) : RNum → RNum
  | ⟨some (.inr (s, n, e, m))⟩ => .fin s n (e + d) m
  | x => x
theorem scaleR_fits {x : RNum} {d : Int} (h : mid x) (d0 : -1000 ≤ d) (d1 : d ≤ 1000) : fits (scaleR d x) := by
  cases x using RNum.rec3 with
  | nan => exact trivial
  | inf s => exact trivial
  | fin s n e m =>
    obtain ⟨n1, e0, e1, hm⟩ := h
    exact ⟨by omega, by omega, by omega, fun g => by rw [hm] at g; cases g⟩

set_option maxHeartbeats 2000000 in
theorem rscale_any (a : Nat) (n : Int) (w : World) (ha : a < 4294967296) :
    Calls Tryd.prog 33 #[.int .u32 a, .int .i64 n] w fun e w' => e = .returned (.int .u32 (roundR (scaleR (min (max n (-1000)) 1000) (numOf Ieee.single a)) : Int)) ∧ Q w w' := by
  obtain ⟨d, hd⟩ : ∃ d, d = min (max n (-1000)) 1000 := ⟨_, rfl⟩
  rw [← hd]
  have d0 : -1000 ≤ d := by omega
  have d1 : d ≤ 1000 := by omega
  have hcase : (n < -1000 ∧ Hid (d = -1000)) ∨ (¬ n < -1000 ∧ 1000 < n ∧ Hid (d = 1000)) ∨ (¬ n < -1000 ∧ ¬ 1000 < n ∧ Hid (d = n)) := by
    by_cases h1 : n < -1000
    · exact Or.inl ⟨h1, by show d = _; omega⟩
    · by_cases h2 : 1000 < n
      · exact Or.inr (Or.inl ⟨h1, h2, by show d = _; omega⟩)
      · exact Or.inr (Or.inr ⟨h1, h2, by show d = _; omega⟩)
  have HC : Hid _ := hcase
  clear hd hcase
  rcases numOf_cases a with hn | ⟨s, hn⟩ | ⟨s, k, e, hn, hk, e0, e1⟩
  all_goals
    have HN : Hid _ := hn
    clear hn
    go_enter Tryd.func33, Tryd.ntmps33
    go_wp2_with fail
    refine (num_any a _ ha).mono ?_
    rintro x w1 ⟨v1, rfl, hv1, q1⟩
    rw [HN.out] at hv1
  · obtain ⟨b, ee, m, rfl⟩ := hv1
    rcases HC.out with ⟨h1, h2⟩ | ⟨h1, h2, h3⟩ | ⟨h1, h2, h3⟩
    all_goals
      go_wp2_with fail
      refine (rbits_any _ .nan _ ⟨_, _, _, rfl⟩ trivial).mono ?_
      rintro x w2 ⟨rfl, q2⟩
      go_wp2_with fail
      go_ret
      exact ⟨ret_int (by rw [HN.out]; rfl), (q1.cells _ _).trans q2⟩
  · obtain ⟨ee, m, rfl⟩ := hv1
    rcases HC.out with ⟨h1, h2⟩ | ⟨h1, h2, h3⟩ | ⟨h1, h2, h3⟩
    all_goals
      go_wp2_with fail
      refine (rbits_any _ (.inf s) _ ⟨_, _, rfl⟩ trivial).mono ?_
      rintro x w2 ⟨rfl, q2⟩
      go_wp2_with fail
      go_ret
      exact ⟨ret_int (by rw [HN.out]; rfl), (q1.cells _ _).trans q2⟩
  · obtain ⟨nv, rfl, p, bb, L, C, rfl, hI⟩ := hv1
    have hfit : fits (.fin s k (e + d) false) := ⟨by have := blen_le (n := k) (k := 24) hk; omega, by omega, by omega, fun h => by cases h⟩
    rcases HC.out with ⟨h1, h2⟩ | ⟨h1, h2, h3⟩ | ⟨h1, h2, h3⟩
    · go_wp2_with fail
      refine (rbits_any _ (.fin s k (e + d) false) _ ⟨.slice p L C, by rw [h2.out], (Q.refl w1).cells _ _ |>.nat ⟨p, bb, L, C, rfl, hI⟩⟩ hfit).mono ?_
      rintro x w2 ⟨rfl, q2⟩
      go_wp2_with fail
      go_ret
      exact ⟨ret_int (by rw [HN.out]; rfl), (q1.cells _ _).trans q2⟩
    · go_wp2_with fail
      refine (rbits_any _ (.fin s k (e + d) false) _ ⟨.slice p L C, by rw [h3.out], (Q.refl w1).cells _ _ |>.nat ⟨p, bb, L, C, rfl, hI⟩⟩ hfit).mono ?_
      rintro x w2 ⟨rfl, q2⟩
      go_wp2_with fail
      go_ret
      exact ⟨ret_int (by rw [HN.out]; rfl), (q1.cells _ _).trans q2⟩
    · have n0 : -1000 ≤ n := by omega
      have n1 : n ≤ 1000 := by omega
      go_wp2_with fail
      refine (rbits_any _ (.fin s k (e + d) false) _ ⟨.slice p L C, by rw [h3.out], (Q.refl w1).cells _ _ |>.nat ⟨p, bb, L, C, rfl, hI⟩⟩ hfit).mono ?_
      rintro x w2 ⟨rfl, q2⟩
      go_wp2_with fail
      go_ret
      exact ⟨ret_int (by rw [HN.out]; rfl), (q1.cells _ _).trans q2⟩

end Go.Proofs.YtnjagokojdpgpabDoor
/- Plain facts: the reference's exact sums and products, rounded, are those of the model's arithmetic. -/
namespace Go.Proofs.YtnjagokojdpgpabDoor
open Go.RowKit

/-- A datum as a number of the reference. -/
def datumR : Ieee.Datum → RNum
  | .nan .. => .nan
  | .infinity s => .inf s
  | .number s m p => .fin s m p false
theorem numOf_datum (f : Ieee.Format) (b : Nat) : numOf f b = datumR (f.read b) := by
  unfold numOf datumR; cases f.read b <;> rfl

theorem roundR_fin (s : Bool) (n : Nat) (e : Int) : roundR (.fin s n e false) = Ieee.single.nearest s n e := by
  show Ieee.single.word s (rungOf Ieee.single (2 * n + 0) (e - 1)) = _
  rw [nearest_rung, Nat.add_zero]
  have := rung_scale Ieee.single n 1 (e - 1)
  rw [Nat.pow_one, Nat.mul_comm n 2] at this
  rw [this, show e - 1 + ((1 : Nat) : Int) = e by omega]

theorem plusFin_sum (s t : Bool) (X Y : Nat) (b : Int) :
    roundR (plusFin s t X Y b) = Ieee.single.nearest (if (if s = true then -(X : Int) else X) + (if t = true then -(Y : Int) else Y) = 0 then s && t else decide ((if s = true then -(X : Int) else X) + (if t = true then -(Y : Int) else Y) < 0))
      ((if s = true then -(X : Int) else X) + (if t = true then -(Y : Int) else Y)).natAbs b := by
  unfold plusFin
  by_cases h : s = t
  · subst h
    rw [if_pos rfl, roundR_fin]
    cases s
    · simp only [Bool.false_eq_true, if_false]
      have e1 : ((X : Int) + (Y : Int)).natAbs = X + Y := by omega
      rw [e1]
      by_cases h0 : (X : Int) + (Y : Int) = 0
      · rw [if_pos h0]; rfl
      · rw [if_neg h0, decide_eq_false (by omega)]
    · simp only [if_true]
      have e1 : (-(X : Int) + -(Y : Int)).natAbs = X + Y := by omega
      rw [e1]
      by_cases h0 : -(X : Int) + -(Y : Int) = 0
      · rw [if_pos h0]; rfl
      · rw [if_neg h0, decide_eq_true (by omega)]
  · rw [if_neg h]
    cases s <;> cases t <;> simp only [Bool.false_eq_true, if_false, if_true]
    · exact absurd rfl h
    · by_cases hxy : X = Y
      · rw [if_pos hxy, roundR_fin, if_pos (by omega : (X : Int) + -(Y : Int) = 0)]
        congr 1; omega
      · rw [if_neg hxy]
        by_cases hlt : Y < X
        · rw [if_pos hlt, roundR_fin, if_neg (by omega : ¬ (X : Int) + -(Y : Int) = 0), decide_eq_false (by omega)]
          congr 1; omega
        · rw [if_neg hlt, roundR_fin, if_neg (by omega : ¬ (X : Int) + -(Y : Int) = 0), decide_eq_true (by omega)]
          congr 1; omega
    · by_cases hxy : X = Y
      · rw [if_pos hxy, roundR_fin, if_pos (by omega : -(X : Int) + (Y : Int) = 0)]
        congr 1; omega
      · rw [if_neg hxy]
        by_cases hlt : Y < X
        · rw [if_pos hlt, roundR_fin, if_neg (by omega : ¬ -(X : Int) + (Y : Int) = 0), decide_eq_true (by omega)]
          congr 1; omega
        · rw [if_neg hlt, roundR_fin, if_neg (by omega : ¬ -(X : Int) + (Y : Int) = 0), decide_eq_false (by omega)]
          congr 1; omega
    · exact absurd rfl h

theorem signed_eq (s : Bool) (m k : Nat) : Ieee.signed s m k = if s = true then -((m * 2 ^ k : Nat) : Int) else ((m * 2 ^ k : Nat) : Int) := by
  unfold Ieee.signed; rw [Nat.shiftLeft_eq]

/-- Sums. -/
theorem plus_link (d d' : Ieee.Datum) : roundR (plusR (datumR d) (datumR d')) = toldD (d.sum d') := by
  cases d with
  | nan s t => cases d' <;> rfl
  | infinity s =>
    cases d' with
    | nan t f => rfl
    | infinity t =>
      show roundR (if s = t then .inf s else .nan) = toldD (if s = t then some (.infinity s) else none)
      by_cases h : s = t
      · rw [if_pos h, if_pos h]; show Ieee.single.word s 2139095040 = Ieee.single.word s Ieee.single.infRung; rw [single_inf]
      · rw [if_neg h, if_neg h]; rfl
    | number t n j => show Ieee.single.word s 2139095040 = Ieee.single.word s Ieee.single.infRung; rw [single_inf]
  | number s m i =>
    cases d' with
    | nan t f => rfl
    | infinity t => show Ieee.single.word t 2139095040 = Ieee.single.word t Ieee.single.infRung; rw [single_inf]
    | number t n j =>
      show roundR (plusFin s t (m * 2 ^ (i - min i j).toNat) (n * 2 ^ (j - min i j).toNat) (min i j)) = Ieee.single.nearest _ _ _
      rw [plusFin_sum, signed_eq, signed_eq]
end Go.Proofs.YtnjagokojdpgpabDoor
/- What the reference's Mul, Fma and Sub return of whatever samples: the exact number, rounded. -/
namespace Go.Proofs.YtnjagokojdpgpabDoor
open Go.RowKit

/-- Numbers of a few hundred digits at most. -/
def few : RNum → Prop
  | ⟨some (.inr (_, n, e, m))⟩ => blen n ≤ 500 ∧ -500 ≤ e ∧ e ≤ 500 ∧ m = false
  | _ => True
theorem few_mid {x : RNum} (h : few x) : mid x := by
  cases x using RNum.rec3 with
  | fin s n e m => exact ⟨by have := h.1; omega, by have := h.2.1; omega, by have := h.2.2.1; omega, h.2.2.2⟩
  | nan => exact trivial
  | inf s => exact trivial
theorem numOf_few (b : Nat) : few (numOf Ieee.single b) := by
  rcases numOf_cases b with h | ⟨s, h⟩ | ⟨s, n, e, h, hn, h0, h1⟩
  · rw [h]; exact trivial
  · rw [h]; exact trivial
  · rw [h]
    have : blen n ≤ 24 := blen_le hn
    exact ⟨by omega, by omega, by omega, rfl⟩

theorem timesR_mid {x y : RNum} (fx : few x) (fy : few y) : mid (timesR x y) := by
  cases x using RNum.rec3 with
  | nan => exact trivial
  | inf s =>
    cases y using RNum.rec3 with
    | nan => exact trivial
    | inf t => exact trivial
    | fin t n f g => show mid (if zeroB (.fin t n f g) = true then .nan else .inf (s != t)); split <;> exact trivial
  | fin s n e m =>
    cases y using RNum.rec3 with
    | nan => exact trivial
    | inf t => show mid (if zeroB (.fin s n e m) = true then .nan else .inf (s != t)); split <;> exact trivial
    | fin t k f g =>
      obtain ⟨a1, a2, a3, _⟩ := fx
      obtain ⟨b1, b2, b3, _⟩ := fy
      refine ⟨?_, by omega, by omega, rfl⟩
      have h2 : n * k < 2 ^ blen n * 2 ^ blen k := Nat.mul_lt_mul_of_lt_of_lt (blen_lt n) (blen_lt k)
      rw [← Nat.pow_add] at h2
      have := blen_le h2
      omega
theorem mid_fits {x : RNum} (h : mid x) : fits x := by
  cases x using RNum.rec3 with
  | nan => exact trivial
  | inf s => exact trivial
  | fin s n e m =>
    obtain ⟨a1, a2, a3, hm⟩ := h
    exact ⟨by omega, by omega, by omega, fun g => by rw [hm] at g; cases g⟩

/-- The other sign. -/
def oppR : RNum → RNum
  | ⟨none⟩ => .nan
  | ⟨some (.inl s)⟩ => .inf !s
  | ⟨some (.inr (s, n, e, m))⟩ => .fin (!s) n e m
theorem opp_mid {x : RNum} (h : mid x) : mid (oppR x) := by cases x using RNum.rec3 <;> exact h

theorem opp_num {w : World} {x : RNum} {k : Int} {s : Bool} {nv : Value} {e : Int} {m : Bool} (h : NumAt w (.agg #[.int .i64 k, .bool s, nv, .int .i64 e, .bool m]) x) : NumAt w (.agg #[.int .i64 k, .bool !s, nv, .int .i64 e, .bool m]) (oppR x) := by
  cases x using RNum.rec3 with
  | nan =>
    obtain ⟨b, e', m', h⟩ := h
    simp at h
    obtain ⟨rfl, rfl, rfl, rfl, rfl⟩ := h
    exact ⟨_, _, _, rfl⟩
  | inf t =>
    obtain ⟨e', m', h⟩ := h
    simp at h
    obtain ⟨rfl, rfl, rfl, rfl, rfl⟩ := h
    exact ⟨_, _, rfl⟩
  | fin t n f g =>
    obtain ⟨nv', h, hn⟩ := h
    simp at h
    obtain ⟨rfl, rfl, rfl, rfl, rfl⟩ := h
    exact ⟨_, rfl, hn⟩

/-- Products. -/
theorem times_link (d d' : Ieee.Datum) : roundR (timesR (datumR d) (datumR d')) = toldD (d.product d') := by
  cases d with
  | nan s t => cases d' <;> rfl
  | infinity s =>
    cases d' with
    | nan t f => rfl
    | infinity t =>
      show Ieee.single.word (s != t) 2139095040 = Ieee.single.word (s ^^ t) Ieee.single.infRung
      cases s <;> cases t <;> rw [single_inf] <;> rfl
    | number t n j =>
      show roundR (if (decide (n = 0) && !false) = true then .nan else .inf (s != t)) = toldD (if n = 0 then none else some (.infinity (s ^^ t)))
      by_cases h : n = 0
      · rw [if_pos h, if_pos (by simp [h])]; rfl
      · rw [if_neg h, if_neg (by simp [h])]
        show Ieee.single.word (s != t) 2139095040 = Ieee.single.word (s ^^ t) Ieee.single.infRung
        cases s <;> cases t <;> rw [single_inf] <;> rfl
  | number s m i =>
    cases d' with
    | nan t f => rfl
    | infinity t =>
      show roundR (if (decide (m = 0) && !false) = true then .nan else .inf (s != t)) = toldD (if m = 0 then none else some (.infinity (t ^^ s)))
      by_cases h : m = 0
      · rw [if_pos h, if_pos (by simp [h])]; rfl
      · rw [if_neg h, if_neg (by simp [h])]
        show Ieee.single.word (s != t) 2139095040 = Ieee.single.word (t ^^ s) Ieee.single.infRung
        cases s <;> cases t <;> rw [single_inf] <;> rfl
    | number t n j =>
      show roundR (.fin (s != t) (m * n) (i + j) false) = Ieee.single.nearest (s ^^ t) (m * n) (i + j)
      cases s <;> cases t <;> rw [roundR_fin] <;> rfl
theorem opp_link (d : Ieee.Datum) : oppR (datumR d) = datumR d.opposite := by cases d <;> rfl
end Go.Proofs.YtnjagokojdpgpabDoor
/- What the reference's DivNum and Div return of whatever samples. -/
namespace Go.Proofs.YtnjagokojdpgpabDoor
open Go.RowKit

/-- The quotient, cut behind its digits, and whether something is left. -/
def divR : RNum → RNum → RNum
  | ⟨none⟩, _ => .nan
  | ⟨some (.inl _)⟩, ⟨none⟩ => .nan
  | ⟨some (.inr _)⟩, ⟨none⟩ => .nan
  | ⟨some (.inl _)⟩, ⟨some (.inl _)⟩ => .nan
  | ⟨some (.inl s)⟩, ⟨some (.inr (t, _))⟩ => .inf (s != t)
  | ⟨some (.inr (s, _))⟩, ⟨some (.inl t)⟩ => .fin (s != t) 0 0 false
  | ⟨some (.inr (s, n, e, m))⟩, ⟨some (.inr (t, k, f, g))⟩ =>
    if zeroB (.fin s n e m) = true ∨ zeroB (.fin t k f g) = true then (if zeroB (.fin t k f g) = true then (if zeroB (.fin s n e m) = true then .nan else .inf (s != t)) else .fin (s != t) 0 0 false)
    else .fin (s != t) (n * 2 ^ shV n k / k) (e - f - (shV n k : Int)) (!decide (n * 2 ^ shV n k % k = 0))

/-- The quotient has 60 digits and more. -/
theorem quo_big {n k : Nat} (n0 : n ≠ 0) (k0 : k ≠ 0) : 2 ^ 59 ≤ n * 2 ^ shV n k / k := by
  have hA := blen_mul_pow n0 (shV n k)
  have h1 := blen_lt k
  have h2 : 2 ^ (n * 2 ^ shV n k).log2 ≤ n * 2 ^ shV n k := Nat.log2_self_le (Nat.mul_ne_zero n0 (by have := Nat.two_pow_pos (shV n k); omega))
  have h3 : (n * 2 ^ shV n k).log2 + 1 = blen n + shV n k := by
    rw [← hA]; unfold blen
    rw [if_neg (Nat.mul_ne_zero n0 (by have := Nat.two_pow_pos (shV n k); omega))]
  rw [Nat.le_div_iff_mul_le (by omega)]
  have h4 : 2 ^ 59 * k ≤ 2 ^ 59 * 2 ^ blen k := Nat.mul_le_mul_left _ (by omega)
  rw [← Nat.pow_add] at h4
  have h5 : 2 ^ (59 + blen k) ≤ 2 ^ (n * 2 ^ shV n k).log2 := Nat.pow_le_pow_right (by decide) (by unfold shV at h3 ⊢; omega)
  omega
theorem divR_fits {x y : RNum} (fx : few x) (fy : few y) : fits (divR x y) := by
  cases x using RNum.rec3 with
  | nan => exact trivial
  | inf s => cases y using RNum.rec3 <;> exact trivial
  | fin s n e m =>
    cases y using RNum.rec3 with
    | nan => exact trivial
    | inf t => exact ⟨by decide, by decide, by decide, fun h => by cases h⟩
    | fin t k f g =>
      show fits (if zeroB (.fin s n e m) = true ∨ zeroB (.fin t k f g) = true then (if zeroB (.fin t k f g) = true then (if zeroB (.fin s n e m) = true then .nan else .inf (s != t)) else .fin (s != t) 0 0 false) else .fin (s != t) (n * 2 ^ shV n k / k) (e - f - (shV n k : Int)) (!decide (n * 2 ^ shV n k % k = 0)))
      obtain ⟨a1, a2, a3, rfl⟩ := fx
      obtain ⟨b1, b2, b3, rfl⟩ := fy
      by_cases hz : zeroB (.fin s n e false) = true ∨ zeroB (.fin t k f false) = true
      · rw [if_pos hz]
        split
        · split <;> exact trivial
        · exact ⟨by decide, by decide, by decide, fun h => by cases h⟩
      · rw [if_neg hz]
        have n0 : n ≠ 0 := fun c => hz (Or.inl (by rw [c]; rfl))
        have k0 : k ≠ 0 := fun c => hz (Or.inr (by rw [c]; rfl))
        have hq := quo_big n0 k0
        have hsh : shV n k ≤ 560 := by unfold shV; omega
        have hle : n * 2 ^ shV n k / k ≤ n * 2 ^ shV n k := Nat.div_le_self _ _
        have hbl : blen (n * 2 ^ shV n k / k) ≤ blen n + shV n k := blen_le (Nat.lt_of_le_of_lt hle (by rw [← blen_mul_pow n0]; exact blen_lt _))
        have hp : (0 : Nat) < 2 ^ 59 := by decide
        have hne : n * 2 ^ shV n k / k ≠ 0 := by omega
        refine ⟨by omega, by omega, by omega, fun _ => ⟨hne, ?_⟩⟩
        have hl : 59 ≤ (n * 2 ^ shV n k / k).log2 := (Nat.le_log2 hne).2 hq
        unfold lastOf
        rw [single_frac]
        omega

end Go.Proofs.YtnjagokojdpgpabDoor
