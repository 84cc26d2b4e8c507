/- What the reference's square and Sqrt return. -/
import Derived.Test.YtgpkcclapkdndaaRefB
import Derived.Test.YtgpkcclapkdndaaRefC
namespace Go.Proofs.Ytgpkcclapkdndaa
open Go.RowKit

theorem field_nat (k : Int) (s : Bool) (p : Option Addr) (L C : Nat) (e : Int) (m : Bool) (w : World) :
    Sem.run Try.prog (Instr.field 46 (.agg #[.int .i64 k, .bool s, .slice p L C, .int .i64 e, .bool m]) 2) w = .ok (.slice p L C) w := by kernel_rfl

set_option maxHeartbeats 2000000 in
theorem square_any (va : Value) (n : Nat) (w : World) (ha : NatAt w va n) (hn : blen n ≤ 400) :
    Calls Try.prog 56 #[va] w fun e w' => ∃ v, e = .returned v ∧ NatAt w' v (n * n) ∧ Q w w' := by
  obtain ⟨p, b, L, C, rfl, hI⟩ := ha
  have hfk := field_nat
  have HI : Hid _ := hI
  clear hI
  go_enter Try.func56, Try.ntmps56
  go_wp2_with fail
  refine (timesnum_any _ _ (.fin false n 0 false) (.fin false n 0 false) _ ⟨_, rfl, p, b, L, C, rfl, HI.out⟩ ⟨_, rfl, p, b, L, C, rfl, HI.out⟩ ⟨by omega, by omega, by omega, rfl⟩ ⟨by omega, by omega, by omega, rfl⟩).mono ?_
  rintro e w1 ⟨v1, rfl, ⟨nv, rfl, p1, b1, L1, C1, rfl, h1⟩, q1⟩
  have H1 : Hid _ := h1
  clear h1
  go_wp2_with fail
  go_ret
  exact ⟨_, rfl, ⟨p1, b1, L1, C1, rfl, H1.out⟩, q1⟩

/-- The root's digits from place k on are right. -/
structure RootTo (n r k : Nat) : Prop where
  lo : r * r ≤ n
  hi : n < (r + 2 ^ k) * (r + 2 ^ k)
theorem root_start (n : Nat) : RootTo n 0 (blen n / 2 + 1) := by
  refine ⟨Nat.zero_le _, ?_⟩
  have := blen_lt n
  rw [Nat.zero_add, ← Nat.pow_add]
  exact Nat.lt_of_lt_of_le this (Nat.pow_le_pow_right (by decide) (by omega))
theorem root_yes {n r k : Nat} (h : RootTo n r (k + 1)) (g : (r + 2 ^ k) * (r + 2 ^ k) ≤ n) : RootTo n (r + 2 ^ k) k := by
  refine ⟨g, ?_⟩
  have := h.hi
  rw [Nat.pow_succ] at this
  rw [show r + 2 ^ k + 2 ^ k = r + 2 ^ k * 2 by omega]; exact this
theorem root_no {n r k : Nat} (h : RootTo n r (k + 1)) (g : ¬ (r + 2 ^ k) * (r + 2 ^ k) ≤ n) : RootTo n r k := ⟨h.lo, by omega⟩
theorem root_small {n r k : Nat} (h : RootTo n r k) : r ≤ n := by
  rcases Nat.eq_zero_or_pos r with g | g
  · omega
  · have h4 : r * 1 ≤ r * r := Nat.mul_le_mul_left _ g
    have := h.lo
    omega
theorem cmp_yes {a b : Nat} (h : a ≤ b) : (cmpV a b) ≤ 0 := by unfold cmpV; split <;> (try split) <;> omega
theorem cmp_no {a b : Nat} (h : ¬ a ≤ b) : 0 < cmpV a b := by unfold cmpV; split <;> (try split) <;> omega
theorem blen_sum {a b : Nat} (h : a ≤ b) : blen a ≤ blen b := blen_le (Nat.lt_of_le_of_lt h (blen_lt b))

set_option maxHeartbeats 8000000 in
set_option maxRecDepth 100000 in
/-- Of a number above 0. -/
theorem sqrt_fin (a k : Nat) (e : Int) (w : World) (ha : a < 4294967296) (hk : k < 16777216) (hk0 : k ≠ 0) (e0 : -149 ≤ e) (e1 : e ≤ 104) (hn : numOf Ieee.single a = .fin false k e false) :
    Calls Try.prog 21 #[.int .u32 a] w fun x w' => ∃ n E r, ((n = k * 2 ^ 70 ∧ E = e - 70 ∧ e % 2 = 0) ∨ (n = k * 2 ^ 71 ∧ E = e - 71 ∧ e % 2 = 1)) ∧ RootTo n r 0 ∧
      x = .returned (.int .u32 (roundR (.fin false r (E / 2) (decide (r * r < n))) : Nat)) ∧ Q w w' := by
  have HN : Hid _ := hn
  clear hn
  go_enter Try.func21, Try.ntmps21
  go_wp2_with fail
  refine (num_any a _ ha).mono ?_
  rintro x w1 ⟨v1, rfl, hv1, q1⟩
  rw [HN.out] at hv1
  obtain ⟨nv, rfl, p, bb, L, C, rfl, hI⟩ := hv1
  have HI : Hid _ := hI
  clear hI
  go_wp2_with fail
  refine (zero_any _ (.fin false k e false) _ ⟨_, rfl, p, bb, L, C, rfl, ((Q.refl w1).cells _ _).natIs HI.out⟩).mono ?_
  rintro x w2 ⟨rfl, c2, rfl⟩
  have hz : zeroB (.fin false k e false) = false := by unfold zeroB; cases k <;> first | exact absurd rfl hk0 | rfl
  rw [hz]
  clear hz
  go_wp2_with fail
  refine (up_any _ k 70 _ ⟨p, bb, L, C, rfl, (((Q.refl w1).cells _ _).cells _ _).natIs HI.out⟩ (lt_cap (k := 100) (by have := Nat.mul_lt_mul_of_pos_right (show k < 2 ^ 24 from hk) (Nat.two_pow_pos 70); rw [← Nat.pow_add] at this; exact Nat.lt_of_lt_of_le this (Nat.pow_le_pow_right (by decide) (by decide))) (by decide))).mono ?_
  rintro x w3 ⟨vn, rfl, ⟨p3, b3, L3, C3, rfl, h3⟩, q3⟩
  have hq3 : Q w w3 := ((q1.cells _ _).cells _ _).trans q3
  have hc3 : w3.cell? ⟨w1.heap.size, 3, none⟩ = some (.int .i64 e) := q3.cell (by simp [go_sem])
  have H3 : Hid _ := h3
  have HQ3 : Hid (Q w w3) := hq3
  clear h3 q3 hq3 HI q1
  by_cases he : e % 2 = 0
  · have ht : ((e - 70).tmod 2 != 0) = false := by
      have : (e - 70).tmod 2 = 0 := Int.tmod_eq_zero_of_dvd (by omega)
      rw [this]; rfl
    go_wp2_with fail
    obtain ⟨N, hN⟩ : ∃ N, N = k * 2 ^ 70 := ⟨_, rfl⟩
    obtain ⟨E, hE⟩ : ∃ E, E = e - 70 := ⟨_, rfl⟩
    have hNb : blen N ≤ 96 := blen_le (by rw [hN]; have := Nat.mul_lt_mul_of_pos_right (show k < 2 ^ 24 from hk) (Nat.two_pow_pos 70); rw [← Nat.pow_add] at this; exact Nat.lt_of_lt_of_le this (Nat.pow_le_pow_right (by decide) (by decide)))
    rw [← hN] at H3
    rw [← hE]
    have HW : Hid ((N = k * 2 ^ 70 ∧ E = e - 70 ∧ e % 2 = 0) ∨ (N = k * 2 ^ 71 ∧ E = e - 71 ∧ e % 2 = 1)) := Or.inl ⟨hN, hE, he⟩
    have E0 : -300 ≤ E := by omega
    have E1 : E ≤ 100 := by omega
    have hEd : E.tdiv 2 = E / 2 := by rw [Int.tdiv_eq_ediv_of_dvd]; omega
    have HNI : Hid (NatIs w3 p3 b3 L3 N) := H3
    have HQ : Hid (Q w w3) := HQ3
    obtain ⟨pN, hpN⟩ : ∃ q, q = p3 := ⟨_, rfl⟩
    obtain ⟨bN, hbN⟩ : ∃ q, q = b3 := ⟨_, rfl⟩
    obtain ⟨LN, hLN⟩ : ∃ q, q = L3 := ⟨_, rfl⟩
    obtain ⟨CN, hCN⟩ : ∃ q, q = C3 := ⟨_, rfl⟩
    rw [← hpN, ← hLN, ← hCN]
    rw [← hpN, ← hbN, ← hLN] at HNI
    have hNbig : 2 ^ 70 ≤ N := by rw [hN]; have := Nat.mul_le_mul_right (2 ^ 70) (show 1 ≤ k by omega); omega
    clear hpN hbN hLN hCN H3 HQ3 ht hN hE
    refine (bits_any _ N _ ⟨pN, bN, LN, CN, rfl, HNI.out⟩).mono ?_
    rintro x w5 ⟨rfl, hw5⟩
    subst hw5
    go_wp2_with fail
    go_loopg [6, 7] (blen N / 2 + 1) (fun g s6 s7 wr => ∃ kk r : Nat, g = kk ∧ s7 = .int .i64 ((kk : Int) - 1) ∧ kk ≤ blen N / 2 + 1 ∧ RootTo N r kk ∧ NatAt wr s6 r ∧ Q w wr ∧ NatIs wr pN bN LN N)
    case atStart =>
      exact ⟨blen N / 2 + 1, 0, rfl, by first | rfl | (congr 1; omega), Nat.le_refl _, root_start N, nat_nil _, HQ.out, HNI.out⟩
    case round =>
      obtain ⟨kk, r, hg, rfl, hle, hR, hA, qA, nA⟩ := hrel
      have hrs := root_small hR
      have hbr := blen_sum hrs
      have HR : Hid _ := hR
      have HA : Hid _ := hA
      have HQA : Hid (Q w wr) := qA
      have HNA : Hid _ := nA
      clear hR hA qA nA
      cases kk with
      | zero =>
        obtain ⟨pr, br, Lr, Cr, rfl, hr⟩ := HA.out
        have Hr : Hid _ := hr
        clear hr HA
        go_wp2_with fail
        refine (square_any _ r _ ⟨pr, br, Lr, Cr, rfl, Hr.out⟩ (by omega)).mono ?_
        rintro x w6 ⟨v6, rfl, ⟨p6, b6, L6, C6, rfl, h6⟩, q6⟩
        have H6 : Hid _ := h6
        clear h6
        go_wp2_with fail
        refine (compare_any _ _ (r * r) N _ ⟨p6, b6, L6, C6, rfl, H6.out⟩ ⟨pN, bN, LN, CN, rfl, q6.natIs HNA.out⟩).mono ?_
        rintro x w7 ⟨rfl, q7⟩
        have hqq : Q w w7 := (HQA.out.trans q6).trans q7
        have hr7 : NatIs w7 pr br Lr r := (q6.trans q7).natIs Hr.out
        have HX : Hid (Q w w7 ∧ NatIs w7 pr br Lr r) := And.intro hqq hr7
        clear hqq hr7 q6 q7 H6 HQA Hr
        have hR0 := HR.out
        have hbig : 2 ^ 35 ≤ r := by
          rcases Nat.lt_or_ge r (2 ^ 35) with g | g
          · have h1 := hR0.hi
            rw [Nat.pow_zero] at h1
            have h2 : (r + 1) * (r + 1) ≤ 2 ^ 35 * 2 ^ 35 := Nat.mul_le_mul g g
            rw [← Nat.pow_add] at h2
            omega
          · exact g
        by_cases hlt : r * r < N
        · have hcv : cmpV (r * r) N = -1 := by unfold cmpV; rw [if_pos hlt]
          have HL : Hid _ := hlt
          have hfit : fits (.fin false r (E / 2) true) := ⟨by omega, by omega, by omega, fun _ => ⟨by omega, by
            unfold lastOf
            have : 35 ≤ r.log2 := (Nat.le_log2 (by omega)).2 hbig
            rw [show (Ieee.single.fractionBits : Int) = 23 from rfl]
            omega⟩⟩
          clear hlt hbig hR0
          go_wp2_with fail
          refine (rbits_any _ (.fin false r (E / 2) true) _ ⟨_, rfl, pr, br, Lr, Cr, rfl, HX.out.2⟩ hfit).mono ?_
          rintro x w8 ⟨rfl, q8⟩
          go_wp2_with fail
          go_ret
          exact ⟨N, E, r, HW.out, HR.out, congrArg (fun b => Ending.returned (.int .u32 ((roundR (.fin false r (E / 2) b) : Nat) : Int))) (decide_eq_true HL.out).symm, HX.out.1.trans q8⟩
        · have hcv : cmpV (r * r) N = 0 := by
            unfold cmpV; rw [if_neg hlt, if_pos (by have := hR0.lo; omega)]
          have HL : Hid _ := hlt
          have hfit : fits (.fin false r (E / 2) false) := ⟨by omega, by omega, by omega, fun h => by cases h⟩
          clear hlt hbig hR0
          go_wp2_with fail
          refine (rbits_any _ (.fin false r (E / 2) false) _ ⟨_, rfl, pr, br, Lr, Cr, rfl, HX.out.2⟩ hfit).mono ?_
          rintro x w8 ⟨rfl, q8⟩
          go_wp2_with fail
          go_ret
          exact ⟨N, E, r, HW.out, HR.out, congrArg (fun b => Ending.returned (.int .u32 ((roundR (.fin false r (E / 2) b) : Nat) : Int))) (decide_eq_false HL.out).symm, HX.out.1.trans q8⟩
      | succ j =>
        have ej : ((j + 1 : Nat) : Int) - 1 = (j : Int) := by omega
        rw [ej]
        clear ej
        go_wp2_with fail
        refine (natof_nat 1 _ (by decide)).mono ?_
        rintro x w6 ⟨v6, rfl, h6, q6⟩
        have H6 : Hid _ := h6
        have Q6 : Hid (Q wr w6) := q6
        clear h6 q6
        go_wp2_with fail
        refine (up_any v6 1 j _ H6.out (lt_cap (k := 200) (by rw [Nat.one_mul]; exact Nat.pow_lt_pow_right (by decide) (by omega)) (by decide))).mono ?_
        rintro x w7 ⟨v7, rfl, h7, q7⟩
        rw [Nat.one_mul] at h7
        have H7 : Hid _ := h7
        have Q7 : Hid (Q w6 w7) := q7
        clear h7 q7
        have hsum : blen (r + 2 ^ j) ≤ 150 := by
          refine blen_le ?_
          have a1 : r < 2 ^ 149 := Nat.lt_of_lt_of_le (blen_lt r) (Nat.pow_le_pow_right (by decide) (by omega))
          have a2 : 2 ^ j ≤ 2 ^ 149 := Nat.pow_le_pow_right (by decide) (by omega)
          have a3 : 2 ^ 150 = 2 ^ 149 * 2 := by rw [← Nat.pow_succ]
          omega
        go_wp2_with fail
        refine (plus_any _ v7 r (2 ^ j) _ ((Q6.out.trans Q7.out).nat HA.out) H7.out (lt_cap (k := 150) (Nat.lt_of_lt_of_le (blen_lt _) (Nat.pow_le_pow_right (by decide) hsum)) (by decide))).mono ?_
        rintro x w8 ⟨v8, rfl, h8, q8⟩
        have H8 : Hid _ := h8
        have Q8 : Hid (Q w7 w8) := q8
        clear h8 q8
        go_wp2_with fail
        refine (square_any v8 (r + 2 ^ j) _ H8.out (by omega)).mono ?_
        rintro x w9 ⟨v9, rfl, h9, q9⟩
        have H9 : Hid _ := h9
        have Q9 : Hid (Q w8 w9) := q9
        clear h9 q9
        have QA : Hid (Q wr w9) := ((Q6.out.trans Q7.out).trans Q8.out).trans Q9.out
        go_wp2_with fail
        refine (compare_any v9 _ ((r + 2 ^ j) * (r + 2 ^ j)) N _ H9.out ⟨pN, bN, LN, CN, rfl, QA.out.natIs HNA.out⟩).mono ?_
        rintro x w10 ⟨rfl, q10⟩
        have Q10 : Hid (Q w9 w10) := q10
        clear q10
        by_cases hyes : (r + 2 ^ j) * (r + 2 ^ j) ≤ N
        · have hcv := cmp_yes hyes
          have HY : Hid _ := hyes
          clear hyes
          go_wp2_with fail
          go_roundg j
          case measure => go_light; omega
          case rel =>
            go_light
            exact ⟨j, r + 2 ^ j, rfl, rfl, by omega, root_yes HR.out HY.out, (Q9.out.trans Q10.out).nat H8.out, HQA.out.trans (QA.out.trans Q10.out), (QA.out.trans Q10.out).natIs HNA.out⟩
        · have hcv := cmp_no hyes
          have HY : Hid _ := hyes
          clear hyes
          go_wp2_with fail
          go_roundg j
          case measure => go_light; omega
          case rel =>
            go_light
            exact ⟨j, r, rfl, rfl, by omega, root_no HR.out HY.out, (QA.out.trans Q10.out).nat HA.out, HQA.out.trans (QA.out.trans Q10.out), (QA.out.trans Q10.out).natIs HNA.out⟩
  · have ht : ((e - 70).tmod 2 != 0) = true := by
      rw [bne_iff_ne]
      intro h
      have := Int.dvd_of_tmod_eq_zero h
      omega
    go_wp2_with fail
    refine (up_any _ (k * 2 ^ 70) 1 _ ⟨p3, b3, L3, C3, rfl, H3.out⟩ (lt_cap (k := 100) (by have := Nat.mul_lt_mul_of_pos_right (show k < 2 ^ 24 from hk) (Nat.two_pow_pos 71); rw [← Nat.pow_add] at this; rw [Nat.mul_assoc, ← Nat.pow_add]; exact Nat.lt_of_lt_of_le this (Nat.pow_le_pow_right (by decide) (by decide))) (by decide))).mono ?_
    rintro x w4 ⟨vn, rfl, ⟨p4, b4, L4, C4, rfl, h4⟩, q4⟩
    rw [Nat.mul_assoc, ← Nat.pow_add] at h4
    have H4 : Hid _ := h4
    have HQ4 : Hid (Q w w4) := HQ3.out.trans q4
    clear h4 q4 HQ3 H3 hc3
    go_wp2_with fail
    obtain ⟨N, hN⟩ : ∃ N, N = k * 2 ^ 71 := ⟨_, rfl⟩
    obtain ⟨E, hE⟩ : ∃ E, E = e - 71 := ⟨_, rfl⟩
    have hNb : blen N ≤ 96 := blen_le (by rw [hN]; have := Nat.mul_lt_mul_of_pos_right (show k < 2 ^ 24 from hk) (Nat.two_pow_pos 71); rw [← Nat.pow_add] at this; exact Nat.lt_of_lt_of_le this (Nat.pow_le_pow_right (by decide) (by decide)))
    rw [← hN] at H4
    rw [show e - 70 - 1 = E by omega]
    have HW : Hid ((N = k * 2 ^ 70 ∧ E = e - 70 ∧ e % 2 = 0) ∨ (N = k * 2 ^ 71 ∧ E = e - 71 ∧ e % 2 = 1)) := Or.inr ⟨hN, hE, by omega⟩
    have E0 : -300 ≤ E := by omega
    have E1 : E ≤ 100 := by omega
    have hEd : E.tdiv 2 = E / 2 := by rw [Int.tdiv_eq_ediv_of_dvd]; omega
    have HNI : Hid (NatIs w4 p4 b4 L4 N) := H4
    have HQ : Hid (Q w w4) := HQ4
    obtain ⟨pN, hpN⟩ : ∃ q, q = p4 := ⟨_, rfl⟩
    obtain ⟨bN, hbN⟩ : ∃ q, q = b4 := ⟨_, rfl⟩
    obtain ⟨LN, hLN⟩ : ∃ q, q = L4 := ⟨_, rfl⟩
    obtain ⟨CN, hCN⟩ : ∃ q, q = C4 := ⟨_, rfl⟩
    rw [← hpN, ← hLN, ← hCN]
    rw [← hpN, ← hbN, ← hLN] at HNI
    have hNbig : 2 ^ 70 ≤ N := by rw [hN]; have := Nat.mul_le_mul_right (2 ^ 71) (show 1 ≤ k by omega); omega
    clear hpN hbN hLN hCN H4 HQ4 ht hN hE
    refine (bits_any _ N _ ⟨pN, bN, LN, CN, rfl, HNI.out⟩).mono ?_
    rintro x w5 ⟨rfl, hw5⟩
    subst hw5
    go_wp2_with fail
    go_loopg [6, 7] (blen N / 2 + 1) (fun g s6 s7 wr => ∃ kk r : Nat, g = kk ∧ s7 = .int .i64 ((kk : Int) - 1) ∧ kk ≤ blen N / 2 + 1 ∧ RootTo N r kk ∧ NatAt wr s6 r ∧ Q w wr ∧ NatIs wr pN bN LN N)
    case atStart =>
      exact ⟨blen N / 2 + 1, 0, rfl, by first | rfl | (congr 1; omega), Nat.le_refl _, root_start N, nat_nil _, HQ.out, HNI.out⟩
    case round =>
      obtain ⟨kk, r, hg, rfl, hle, hR, hA, qA, nA⟩ := hrel
      have hrs := root_small hR
      have hbr := blen_sum hrs
      have HR : Hid _ := hR
      have HA : Hid _ := hA
      have HQA : Hid (Q w wr) := qA
      have HNA : Hid _ := nA
      clear hR hA qA nA
      cases kk with
      | zero =>
        obtain ⟨pr, br, Lr, Cr, rfl, hr⟩ := HA.out
        have Hr : Hid _ := hr
        clear hr HA
        go_wp2_with fail
        refine (square_any _ r _ ⟨pr, br, Lr, Cr, rfl, Hr.out⟩ (by omega)).mono ?_
        rintro x w6 ⟨v6, rfl, ⟨p6, b6, L6, C6, rfl, h6⟩, q6⟩
        have H6 : Hid _ := h6
        clear h6
        go_wp2_with fail
        refine (compare_any _ _ (r * r) N _ ⟨p6, b6, L6, C6, rfl, H6.out⟩ ⟨pN, bN, LN, CN, rfl, q6.natIs HNA.out⟩).mono ?_
        rintro x w7 ⟨rfl, q7⟩
        have hqq : Q w w7 := (HQA.out.trans q6).trans q7
        have hr7 : NatIs w7 pr br Lr r := (q6.trans q7).natIs Hr.out
        have HX : Hid (Q w w7 ∧ NatIs w7 pr br Lr r) := And.intro hqq hr7
        clear hqq hr7 q6 q7 H6 HQA Hr
        have hR0 := HR.out
        have hbig : 2 ^ 35 ≤ r := by
          rcases Nat.lt_or_ge r (2 ^ 35) with g | g
          · have h1 := hR0.hi
            rw [Nat.pow_zero] at h1
            have h2 : (r + 1) * (r + 1) ≤ 2 ^ 35 * 2 ^ 35 := Nat.mul_le_mul g g
            rw [← Nat.pow_add] at h2
            omega
          · exact g
        by_cases hlt : r * r < N
        · have hcv : cmpV (r * r) N = -1 := by unfold cmpV; rw [if_pos hlt]
          have HL : Hid _ := hlt
          have hfit : fits (.fin false r (E / 2) true) := ⟨by omega, by omega, by omega, fun _ => ⟨by omega, by
            unfold lastOf
            have : 35 ≤ r.log2 := (Nat.le_log2 (by omega)).2 hbig
            rw [show (Ieee.single.fractionBits : Int) = 23 from rfl]
            omega⟩⟩
          clear hlt hbig hR0
          go_wp2_with fail
          refine (rbits_any _ (.fin false r (E / 2) true) _ ⟨_, rfl, pr, br, Lr, Cr, rfl, HX.out.2⟩ hfit).mono ?_
          rintro x w8 ⟨rfl, q8⟩
          go_wp2_with fail
          go_ret
          exact ⟨N, E, r, HW.out, HR.out, congrArg (fun b => Ending.returned (.int .u32 ((roundR (.fin false r (E / 2) b) : Nat) : Int))) (decide_eq_true HL.out).symm, HX.out.1.trans q8⟩
        · have hcv : cmpV (r * r) N = 0 := by
            unfold cmpV; rw [if_neg hlt, if_pos (by have := hR0.lo; omega)]
          have HL : Hid _ := hlt
          have hfit : fits (.fin false r (E / 2) false) := ⟨by omega, by omega, by omega, fun h => by cases h⟩
          clear hlt hbig hR0
          go_wp2_with fail
          refine (rbits_any _ (.fin false r (E / 2) false) _ ⟨_, rfl, pr, br, Lr, Cr, rfl, HX.out.2⟩ hfit).mono ?_
          rintro x w8 ⟨rfl, q8⟩
          go_wp2_with fail
          go_ret
          exact ⟨N, E, r, HW.out, HR.out, congrArg (fun b => Ending.returned (.int .u32 ((roundR (.fin false r (E / 2) b) : Nat) : Int))) (decide_eq_false HL.out).symm, HX.out.1.trans q8⟩
      | succ j =>
        have ej : ((j + 1 : Nat) : Int) - 1 = (j : Int) := by omega
        rw [ej]
        clear ej
        go_wp2_with fail
        refine (natof_nat 1 _ (by decide)).mono ?_
        rintro x w6 ⟨v6, rfl, h6, q6⟩
        have H6 : Hid _ := h6
        have Q6 : Hid (Q wr w6) := q6
        clear h6 q6
        go_wp2_with fail
        refine (up_any v6 1 j _ H6.out (lt_cap (k := 200) (by rw [Nat.one_mul]; exact Nat.pow_lt_pow_right (by decide) (by omega)) (by decide))).mono ?_
        rintro x w7 ⟨v7, rfl, h7, q7⟩
        rw [Nat.one_mul] at h7
        have H7 : Hid _ := h7
        have Q7 : Hid (Q w6 w7) := q7
        clear h7 q7
        have hsum : blen (r + 2 ^ j) ≤ 150 := by
          refine blen_le ?_
          have a1 : r < 2 ^ 149 := Nat.lt_of_lt_of_le (blen_lt r) (Nat.pow_le_pow_right (by decide) (by omega))
          have a2 : 2 ^ j ≤ 2 ^ 149 := Nat.pow_le_pow_right (by decide) (by omega)
          have a3 : 2 ^ 150 = 2 ^ 149 * 2 := by rw [← Nat.pow_succ]
          omega
        go_wp2_with fail
        refine (plus_any _ v7 r (2 ^ j) _ ((Q6.out.trans Q7.out).nat HA.out) H7.out (lt_cap (k := 150) (Nat.lt_of_lt_of_le (blen_lt _) (Nat.pow_le_pow_right (by decide) hsum)) (by decide))).mono ?_
        rintro x w8 ⟨v8, rfl, h8, q8⟩
        have H8 : Hid _ := h8
        have Q8 : Hid (Q w7 w8) := q8
        clear h8 q8
        go_wp2_with fail
        refine (square_any v8 (r + 2 ^ j) _ H8.out (by omega)).mono ?_
        rintro x w9 ⟨v9, rfl, h9, q9⟩
        have H9 : Hid _ := h9
        have Q9 : Hid (Q w8 w9) := q9
        clear h9 q9
        have QA : Hid (Q wr w9) := ((Q6.out.trans Q7.out).trans Q8.out).trans Q9.out
        go_wp2_with fail
        refine (compare_any v9 _ ((r + 2 ^ j) * (r + 2 ^ j)) N _ H9.out ⟨pN, bN, LN, CN, rfl, QA.out.natIs HNA.out⟩).mono ?_
        rintro x w10 ⟨rfl, q10⟩
        have Q10 : Hid (Q w9 w10) := q10
        clear q10
        by_cases hyes : (r + 2 ^ j) * (r + 2 ^ j) ≤ N
        · have hcv := cmp_yes hyes
          have HY : Hid _ := hyes
          clear hyes
          go_wp2_with fail
          go_roundg j
          case measure => go_light; omega
          case rel =>
            go_light
            exact ⟨j, r + 2 ^ j, rfl, rfl, by omega, root_yes HR.out HY.out, (Q9.out.trans Q10.out).nat H8.out, HQA.out.trans (QA.out.trans Q10.out), (QA.out.trans Q10.out).natIs HNA.out⟩
        · have hcv := cmp_no hyes
          have HY : Hid _ := hyes
          clear hyes
          go_wp2_with fail
          go_roundg j
          case measure => go_light; omega
          case rel =>
            go_light
            exact ⟨j, r, rfl, rfl, by omega, root_no HR.out HY.out, (QA.out.trans Q10.out).nat HA.out, HQA.out.trans (QA.out.trans Q10.out), (QA.out.trans Q10.out).natIs HNA.out⟩

/-- The root of a NaN, of nought, of an infinity. -/
def rootOddR : RNum → Nat
  | ⟨some (.inl true)⟩ => 2143289344
  | x => roundR x
set_option maxHeartbeats 2000000 in
/-- Of a NaN, of nought and of infinities. -/
theorem sqrt_odd (a : Nat) (w : World) (ha : a < 4294967296) (h : numOf Ieee.single a = .nan ∨ (∃ s, numOf Ieee.single a = .inf s) ∨ ∃ s e, numOf Ieee.single a = .fin s 0 e false ∧ -149 ≤ e ∧ e ≤ 104) :
    Calls Try.prog 21 #[.int .u32 a] w fun x w' => x = .returned (.int .u32 (rootOddR (numOf Ieee.single a) : Nat)) ∧ Q w w' := by
  rcases h with hn | ⟨s, hn⟩ | ⟨s, e, hn, e0, e1⟩
  · rw [hn, show rootOddR .nan = roundR .nan from rfl]
    have HN : Hid _ := hn
    clear hn
    go_enter Try.func21, Try.ntmps21
    go_wp2_with fail
    refine (num_any a _ ha).mono ?_
    rintro x w1 ⟨v1, rfl, hv1, q1⟩
    rw [HN.out] at hv1
    obtain ⟨b, ee, m, rfl⟩ := hv1
    go_wp2_with fail
    refine (rbits_any _ .nan _ ⟨_, _, _, rfl⟩ trivial).mono ?_
    rintro x w2 ⟨rfl, q2⟩
    go_wp2_with fail
    go_ret
    exact ⟨rfl, (q1.cells _ _).trans q2⟩
  · have HN : Hid (numOf Ieee.single a = .inf s) := hn
    rw [hn]
    clear hn
    cases s
    · rw [show rootOddR (.inf false) = roundR (.inf false) from rfl]
      go_enter Try.func21, Try.ntmps21
      go_wp2_with fail
      refine (num_any a _ ha).mono ?_
      rintro x w1 ⟨v1, rfl, hv1, q1⟩
      rw [HN.out] at hv1
      obtain ⟨ee, m, rfl⟩ := hv1
      go_wp2_with fail
      refine (zero_any _ (.inf false) _ ⟨_, _, rfl⟩).mono ?_
      rintro x w2 ⟨rfl, c2, rfl⟩
      rw [show zeroB (.inf false) = false from rfl]
      go_wp2_with fail
      refine (rbits_any _ (.inf false) _ ⟨_, _, rfl⟩ trivial).mono ?_
      rintro x w2 ⟨rfl, q2⟩
      go_wp2_with fail
      go_ret
      exact ⟨rfl, ((q1.cells _ _).cells _ _).trans q2⟩
    · rw [show rootOddR (.inf true) = 2143289344 from rfl]
      go_enter Try.func21, Try.ntmps21
      go_wp2_with fail
      refine (num_any a _ ha).mono ?_
      rintro x w1 ⟨v1, rfl, hv1, q1⟩
      rw [HN.out] at hv1
      obtain ⟨ee, m, rfl⟩ := hv1
      go_wp2_with fail
      refine (zero_any _ (.inf true) _ ⟨_, _, rfl⟩).mono ?_
      rintro x w2 ⟨rfl, c2, rfl⟩
      rw [show zeroB (.inf true) = false from rfl]
      go_wp2_with fail
      go_ret
      exact ⟨rfl, ((q1.cells _ _).cells _ _)⟩
  · rw [hn, show rootOddR (.fin s 0 e false) = roundR (.fin s 0 e false) from rfl]
    have HN : Hid _ := hn
    clear hn
    go_enter Try.func21, Try.ntmps21
    go_wp2_with fail
    refine (num_any a _ ha).mono ?_
    rintro x w1 ⟨v1, rfl, hv1, q1⟩
    rw [HN.out] at hv1
    obtain ⟨nv, rfl, p, bb, L, C, rfl, hI⟩ := hv1
    have HI : Hid _ := hI
    clear hI
    go_wp2_with fail
    refine (zero_any _ (.fin s 0 e false) _ ⟨_, rfl, p, bb, L, C, rfl, ((Q.refl w1).cells _ _).natIs HI.out⟩).mono ?_
    rintro x w2 ⟨rfl, c2, rfl⟩
    rw [show zeroB (.fin s 0 e false) = true from rfl]
    go_wp2_with fail
    refine (rbits_any _ (.fin s 0 e false) _ ⟨_, rfl, p, bb, L, C, rfl, (((Q.refl w1).cells _ _).cells _ _).natIs HI.out⟩ ⟨by decide, by omega, by omega, fun h => by cases h⟩).mono ?_
    rintro x w2 ⟨rfl, q2⟩
    go_wp2_with fail
    go_ret
    exact ⟨rfl, ((q1.cells _ _).cells _ _).trans q2⟩
set_option maxHeartbeats 2000000 in
/-- Of a number below 0. -/
theorem sqrt_neg (a k : Nat) (e : Int) (w : World) (ha : a < 4294967296) (hk0 : k ≠ 0) (hn : numOf Ieee.single a = .fin true k e false) :
    Calls Try.prog 21 #[.int .u32 a] w fun x w' => x = .returned (.int .u32 (2143289344 : Nat)) ∧ Q w w' := by
  have HN : Hid _ := hn
  clear hn
  go_enter Try.func21, Try.ntmps21
  go_wp2_with fail
  refine (num_any a _ ha).mono ?_
  rintro x w1 ⟨v1, rfl, hv1, q1⟩
  rw [HN.out] at hv1
  obtain ⟨nv, rfl, p, bb, L, C, rfl, hI⟩ := hv1
  have HI : Hid _ := hI
  clear hI
  go_wp2_with fail
  refine (zero_any _ (.fin true k e false) _ ⟨_, rfl, p, bb, L, C, rfl, ((Q.refl w1).cells _ _).natIs HI.out⟩).mono ?_
  rintro x w2 ⟨rfl, c2, rfl⟩
  have hz : zeroB (.fin true k e false) = false := by unfold zeroB; cases k <;> first | exact absurd rfl hk0 | rfl
  rw [hz]
  clear hz
  go_wp2_with fail
  go_ret
  exact ⟨rfl, (q1.cells _ _).cells _ _⟩
end Go.Proofs.Ytgpkcclapkdndaa
