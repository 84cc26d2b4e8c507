/- What the reference's DivNum returns of two numbers that are not 0: the quotient to 60 digits and more, and whether something is left. -/
import Derived.Test.YtieojgblamkgoaaGreatDoorGba0d9aba
namespace Go.Proofs.YtieojgblamkgoaaGreatDoor
open Go.RowKit

/-- By how much the dividend is shifted. -/
def shV (n k : Nat) : Nat := 60 + (blen k - blen n)
theorem div_start {A d : Nat} (hd : 0 < d) (h : blen d ≤ blen A) : A < d * 2 ^ (blen A - blen d + 1) := by
  have h1 := blen_lt A
  have h2 : 2 ^ (blen d - 1) ≤ d := by
    unfold blen
    rw [if_neg (by omega)]
    exact Nat.log2_self_le (by omega)
  have h3 : 0 < blen d := by unfold blen; rw [if_neg (by omega)]; omega
  have h4 : 2 ^ (blen d - 1) * 2 ^ (blen A - blen d + 1) ≤ d * 2 ^ (blen A - blen d + 1) := Nat.mul_le_mul_right _ h2
  rw [← Nat.pow_add, show blen d - 1 + (blen A - blen d + 1) = blen A by omega] at h4
  omega
theorem div_step {rest d g : Nat} (h : rest < d * 2 ^ (g + 1)) (hge : d * 2 ^ g ≤ rest) : rest - d * 2 ^ g < d * 2 ^ g := by
  rw [Nat.pow_succ, ← Nat.mul_assoc] at h
  omega
theorem div_end {A d q rest : Nat} (h : rest + d * q = A) (hr : rest < d * 2 ^ 0) : q = A / d ∧ rest = A % d := by
  rw [Nat.pow_zero, Nat.mul_one] at hr
  have hd : 0 < d := by omega
  constructor
  · rw [← h, Nat.add_mul_div_left _ _ hd, Nat.div_eq_of_lt hr, Nat.zero_add]
  · rw [← h, Nat.add_mul_mod_self_left, Nat.mod_eq_of_lt hr]
theorem blen_mul_pow {n : Nat} (h : n ≠ 0) (k : Nat) : blen (n * 2 ^ k) = blen n + k := by
  unfold blen
  rw [if_neg h, if_neg (Nat.mul_ne_zero h (by have := Nat.two_pow_pos k; omega)), log2_mul_pow h]
  omega

set_option maxHeartbeats 8000000 in
set_option maxRecDepth 1000000 in
theorem div_fin (s t : Bool) (va vb : Value) (n k : Nat) (e f : Int) (w : World) (hn : NatAt w va n) (hk : NatAt w vb k) (n0 : n ≠ 0) (k0 : k ≠ 0)
    (n1 : blen n ≤ 500) (e0 : -1000 ≤ e) (e1 : e ≤ 1000) (k1 : blen k ≤ 500) (f0 : -1000 ≤ f) (f1 : f ≤ 1000) :
    Calls Tryz.prog 102 #[.agg #[.int .i64 2, .bool s, va, .int .i64 e, .bool false], .agg #[.int .i64 2, .bool t, vb, .int .i64 f, .bool false]] w
      fun x w' => ∃ v, x = .returned v ∧ NumAt w' v (.fin (s != t) (n * 2 ^ shV n k / k) (e - f - (shV n k : Int)) (!decide (n * 2 ^ shV n k % k = 0))) ∧ Q w w' := by
  obtain ⟨pa, ba, La, Ca, rfl, hnI⟩ := hn
  obtain ⟨pb, bb, Lb, Cb, rfl, hkI⟩ := hk
  have HNA : Hid (NatAt w (.slice pa La Ca) n) := ⟨pa, ba, La, Ca, rfl, hnI⟩
  have HKA : Hid (NatAt w (.slice pb Lb Cb) k) := ⟨pb, bb, Lb, Cb, rfl, hkI⟩
  obtain ⟨sh, hsh⟩ : ∃ sh, sh = shV n k := ⟨_, rfl⟩
  rw [← hsh]
  have hshb : sh ≤ 560 := by rw [hsh]; unfold shV; omega
  obtain ⟨A, hA⟩ : ∃ A, A = n * 2 ^ sh := ⟨_, rfl⟩
  rw [← hA]
  have hAb : blen A = blen n + sh := by rw [hA]; exact blen_mul_pow n0 sh
  have HAC : Hid (A < cap) := lt_cap (blen_lt A) (by omega)
  have hle : blen k ≤ blen A := by rw [hAb, hsh]; unfold shV; omega
  have HST : Hid _ := div_start (A := A) (d := k) (by omega) hle
  have zn : zeroB (.fin s n e false) = false := by show (decide (n = 0) && !false) = false; rw [decide_eq_false n0]; rfl
  have zk : zeroB (.fin t k f false) = false := by show (decide (k = 0) && !false) = false; rw [decide_eq_false k0]; rfl
  have HZN : Hid _ := zn
  have HZK : Hid _ := zk
  have HSH : Hid _ := hsh
  have HA : Hid _ := hA
  obtain ⟨I, hI⟩ : ∃ I, I = blen A - blen k := ⟨_, rfl⟩
  have HI : Hid _ := hI
  have hIz : (blen A : Int) - (blen k : Int) = (I : Int) := by omega
  have hIb : I ≤ 2000 := by omega
  have HCY : Hid (∀ i, i ≤ 2000 → k * 2 ^ i < cap) := fun i hi => lt_cap (shifted_lt k i (Nat.le_refl _)) (by omega)
  have HC2 : Hid (∀ i, i ≤ 2000 → 1 * 2 ^ i < cap) := fun i hi => lt_cap (k := i + 1) (by rw [Nat.one_mul]; exact Nat.pow_lt_pow_right (by decide) (by omega)) (by omega)
  have hk1 : 1 ≤ k := by omega
  clear zn zk hsh hA hI hle hAb
  go_enter Tryz.func102, Tryz.ntmps102
  go_wp2_with fail
  refine (zero_any _ (.fin s n e false) _ ((((Q.refl w).cells _ _).cells _ _).cells _ _ |>.num ⟨_, rfl, HNA.out⟩)).mono ?_
  rintro x w1 ⟨rfl, c1, rfl⟩
  rw [HZN.out]
  go_wp2_with fail
  refine (zero_any _ (.fin t k f false) _ (((((Q.refl w).cells _ _).cells _ _).cells _ _).cells _ _ |>.num ⟨_, rfl, HKA.out⟩)).mono ?_
  rintro x w1 ⟨rfl, c2, rfl⟩
  rw [HZK.out]
  go_wp2_with fail
  refine (zero_any _ (.fin s n e false) _ ((((((Q.refl w).cells _ _).cells _ _).cells _ _).cells _ _).cells _ _ |>.num ⟨_, rfl, HNA.out⟩)).mono ?_
  rintro x w1 ⟨rfl, c3, rfl⟩
  rw [HZN.out]
  go_upto_region 8 with fail
  go_cut [6] from 11 (fun s6 wc => s6 = .int .i64 sh ∧ TBox w wc (.slice pa La Ca) (.slice pb Lb Cb) e f)
  case first =>
    have wk : IntKind.i64.wrap ((blen k : Int) - (blen n : Int)) = (blen k : Int) - (blen n : Int) := by rw [IntKind.wrap_i64]; omega
    have qw := ((((((Q.refl w).cells #[.int .i64 2, .bool s, .slice pa La Ca, .int .i64 e, .bool false] 138).cells #[.int .i64 2, .bool t, .slice pb Lb Cb, .int .i64 f, .bool false] 138).cells #[.int .i64 0, .bool false, .slice none 0 0, .int .i64 0, .bool false] 138).cells c1 138).cells c2 138).cells c3 138
    go_region_held3 (fun w' => w'.cell? ⟨w.heap.size, 2, none⟩ = some (.slice pa La Ca) ∧ w'.cell? ⟨w.heap.size + 1, 2, none⟩ = some (.slice pb Lb Cb)) (first | (simp [go_sem]; done)) (first | (go_at_call_of 118 (Value.slice pb Lb Cb); refine (bits_any _ k _ (Q.nat qw.drew HKA.out)).mono ?_; rintro x v1 ⟨rfl, rfl⟩) | (go_at_call_of 118 (Value.slice pa La Ca); refine (bits_any _ n _ (Q.nat qw.drew HNA.out)).mono ?_; rintro x v1 ⟨rfl, rfl⟩))
    all_goals go_wp2_with fail
    all_goals
      go_meet
      case rel =>
        go_light
        refine ⟨congrArg (Value.int .i64) (by rw [IntKind.wrap_i64]; have := HSH.out; unfold shV at this; omega), qw.drew, by simp [go_sem], by simp [go_sem], by simp [go_sem], by simp [go_sem], ⟨by simp [go_sem], by simp [go_sem], by simp [go_sem], by simp [go_sem], by simp [go_sem], fun i => by simp [go_sem]⟩⟩
  case rest =>
    obtain ⟨rfl, hB⟩ := hcut
    have a2 := hB.a2
    have b2 := hB.b2
    go_wp2_with fail
    refine (up_any _ n sh _ (hB.q.nat HNA.out) (by rw [← HA.out]; exact HAC.out)).mono ?_
    rintro x w1 ⟨v1, rfl, hv1, q1⟩
    rw [← HA.out] at hv1
    have hB1 := hB.next q1
    have b2 := hB1.b2
    have HV1 : Hid _ := hv1
    clear hv1 hB a2
    go_upto_region 11 with fail
    go_cut [9] from 11 (fun s9 wc => s9 = .int .i64 I ∧ Q w1 wc)
    case first =>
      have wI : IntKind.i64.wrap (I : Int) = (I : Int) := by rw [IntKind.wrap_i64]; omega
      go_region_held3 (fun w' => w'.cell? ⟨w.heap.size + 1, 2, none⟩ = some (.slice pb Lb Cb) ∧ True) (first | (refine ⟨?_, trivial⟩; assumption) | (simp [b2]; done)) (first | (go_at_call_of 118 (Value.slice pb Lb Cb); refine (bits_any _ k _ (Q.nat (hB1.q.drew) HKA.out)).mono ?_; rintro x v2 ⟨rfl, rfl⟩) | (go_at_call_of 118 v1; refine (bits_any _ A _ (Q.nat (Q.refl _).drew HV1.out)).mono ?_; rintro x v2 ⟨rfl, rfl⟩))
      all_goals
        go_wp2_with fail
        go_meet
        case rel => go_light; exact ⟨rfl, (Q.refl _).drew⟩
    case rest =>
      obtain ⟨rfl, q2⟩ := hcut
      have hB2 := hB1.next q2
      have HV2 : Hid _ := q2.nat HV1.out
      clear hB1 b2 q2 q1 HV1
      go_wp2_with fail
      go_loopg [7, 8, 9] (I + 1) (fun g s7 s8 s9 wr => ∃ rest q : Nat, NatAt wr s7 rest ∧ NatAt wr s8 q ∧ rest + k * q = A ∧ rest < k * 2 ^ g ∧ ((g = 0 ∧ s9 = .int .i64 (-1)) ∨ ∃ i : Nat, g = i + 1 ∧ i ≤ 2000 ∧ s9 = .int .i64 i) ∧ TBox w wr (.slice pa La Ca) (.slice pb Lb Cb) e f)
      case atStart => exact ⟨A, 0, HV2.out, nat_nil _, by rw [Nat.mul_zero, Nat.add_zero], by rw [HI.out]; exact HST.out, Or.inr ⟨I, rfl, hIb, rfl⟩, hB2⟩
      case round =>
        obtain ⟨rest, q, h7, h8, hrq, hlt, ⟨rfl, rfl⟩ | ⟨i, rfl, hi, rfl⟩, hB3⟩ := hrel
        · obtain ⟨hq, hr⟩ := div_end hrq hlt
          obtain ⟨p8, b8, L8, C8, rfl, hI8⟩ := h8
          obtain ⟨p7, b7, L7, C7, rfl, hI7⟩ := h7
          have hz := hI7.pos
          have a3 := hB3.a3
          have b3 := hB3.b3
          have d0 := hB3.r.c0
          have d1 := hB3.r.c1
          have d2 := hB3.r.c2
          have d3 := hB3.r.c3
          have d4 := hB3.r.c4
          have y0 := hB3.r.z 0
          have y1 := hB3.r.z 1
          have y2 := hB3.r.z 2
          have y3 := hB3.r.z 3
          have y4 := hB3.r.z 4
          have HQ : Hid _ := hq
          have HRR : Hid _ := hr
          have HZZ : Hid _ := hz
          clear hq hr hz hrq hlt hI7 hIz
          go_wp2_with fail
          refine bodyPost_ret (v := .agg #[.int .i64 2, .bool (s != t), .slice p8 L8 C8, .int .i64 (e - f - (sh : Int)), .bool (decide (0 < (L7 : Int)))]) (by cases s <;> cases t <;> simp [results, Tryz.results102, go_sem, d0, d1, d2, d3, d4]) rfl ⟨_, rfl, ?_, ?_⟩
          · rw [← HQ.out, show (!decide (A % k = 0)) = decide (0 < (L7 : Int)) from by
              rw [← HRR.out]
              by_cases g : rest = 0
              · rw [decide_eq_true g, decide_eq_false (by have := HZZ.out.1 g; omega)]; rfl
              · rw [decide_eq_false g, decide_eq_true (by have : L7 ≠ 0 := fun c => g (HZZ.out.2 c); omega)]; rfl]
            exact ⟨_, rfl, natAt_but ⟨p8, b8, L8, C8, rfl, hI8⟩ d0 (fun a ha => by repeat rw [set_but _ ha])⟩
          · exact ((((hB3.q.set (far2 w) _).set (far2 w) _).set (far2 w) _).set (far2 w) _).set (far2 w) _
        · have hiz : (0 : Int) ≤ (i : Int) := by omega
          have b2 := hB3.b2
          have HRQ : Hid _ := hrq
          have HLT : Hid _ := hlt
          clear hrq hlt
          go_wp2_with fail
          refine (up_any _ k i _ (hB3.q.nat HKA.out) (HCY.out i hi)).mono ?_
          rintro x w4 ⟨v4, rfl, hv4, q4⟩
          have h7' := q4.nat h7
          have h8' := q4.nat h8
          have hB4 := hB3.next q4
          go_wp2_with fail
          refine (compare_any _ _ rest (k * 2 ^ i) _ h7' hv4).mono ?_
          rintro x w5 ⟨rfl, q5⟩
          have HH7 : Hid _ := q5.nat h7'
          have HH8 : Hid _ := q5.nat h8'
          have HHY : Hid _ := q5.nat hv4
          have hB5 := hB4.next q5
          clear h7 h8 h7' h8' hv4 hB3 hB4
          by_cases hc : k * 2 ^ i ≤ rest
          · have ec : cmpV rest (k * 2 ^ i) = 0 ∨ cmpV rest (k * 2 ^ i) = 1 := by
              unfold cmpV
              rw [if_neg (by omega)]
              split <;> simp
            have HC : Hid _ := hc
            have hrA : rest ≤ A := by have := HRQ.out; omega
            have HR1 : Hid (rest < cap) := Nat.lt_of_le_of_lt hrA HAC.out
            have HR2 : Hid (q + 1 * 2 ^ i < cap) := by
              refine Nat.lt_of_le_of_lt ?_ HAC.out
              have h1 : 1 * q ≤ k * q := Nat.mul_le_mul_right _ hk1
              have h2 : 1 * 2 ^ i ≤ k * 2 ^ i := Nat.mul_le_mul_right _ hk1
              have := HRQ.out
              omega
            clear hrA hc
            rcases ec with ec | ec
            all_goals
              rw [ec]
              clear ec
              go_wp2_with fail
              refine (minus_any _ _ rest (k * 2 ^ i) _ HH7.out HHY.out HR1.out HC.out).mono ?_
              rintro x w6 ⟨v6, rfl, hv6, q6⟩
              go_wp2_with fail
              refine (natof_nat 1 _ (by decide)).mono ?_
              rintro x w7 ⟨v7, rfl, hv7, q7⟩
              go_wp2_with fail
              refine (up_any _ 1 i _ hv7 (HC2.out i hi)).mono ?_
              rintro x w8 ⟨v8, rfl, hv8, q8⟩
              go_wp2_with fail
              refine (plus_any _ _ q (1 * 2 ^ i) _ ((((q6.trans q7).trans q8)).nat HH8.out) hv8 HR2.out).mono ?_
              rintro x w9 ⟨v9, rfl, hv9, q9⟩
              go_wp2_with fail
              go_roundg i
              case measure => go_light; omega
              case rel =>
                go_light
                refine ⟨rest - k * 2 ^ i, q + 1 * 2 ^ i, ((q7.trans q8).trans q9).nat hv6, hv9, ?_, div_step HLT.out HC.out, ?_, (((hB5.next q6).next q7).next q8).next q9⟩
                · have h1 := HRQ.out
                  have h2 := HC.out
                  rw [Nat.one_mul, Nat.mul_add]
                  omega
                · rcases Nat.eq_zero_or_pos i with h0 | h0
                  · exact Or.inl ⟨h0, by rw [h0]; rfl⟩
                  · exact Or.inr ⟨i - 1, by omega, by omega, congrArg (Value.int .i64) (by omega)⟩
          · have ec : cmpV rest (k * 2 ^ i) = -1 := by unfold cmpV; rw [if_pos (by omega)]
            rw [ec]
            clear ec
            go_wp2_with fail
            go_roundg i
            case measure => go_light; omega
            case rel =>
              go_light
              refine ⟨rest, q, HH7.out, HH8.out, HRQ.out, by omega, ?_, hB5⟩
              rcases Nat.eq_zero_or_pos i with h0 | h0
              · exact Or.inl ⟨h0, by rw [h0]; rfl⟩
              · exact Or.inr ⟨i - 1, by omega, by omega, congrArg (Value.int .i64) (by omega)⟩
end Go.Proofs.YtieojgblamkgoaaGreatDoor
/- What the reference's DivNum returns where one of the two is no finite number, or is 0. -/
namespace Go.Proofs.YtieojgblamkgoaaGreatDoor
open Go.RowKit

set_option maxHeartbeats 4000000 in
set_option maxRecDepth 1000000 in
theorem div_nan1 (va vb : Value) (y : RNum) (w : World) (hx : NumAt w va .nan) (hy : NumAt w vb y) :
    Calls Tryz.prog 102 #[va, vb] w fun e w' => ∃ v, e = .returned v ∧ NumAt w' v .nan ∧ Q w w' := by
  obtain ⟨b, e, m, rfl⟩ := hx
  obtain ⟨k, s, p, L, C, ee, mm, rfl⟩ := hy.made
  clear hy
  go_enter Tryz.func102, Tryz.ntmps102
  go_wp2_with fail
  refine bodyPost_ret (v := .agg #[.int .i64 0, .bool false, .slice none 0 0, .int .i64 0, .bool false]) (by simp [results, Tryz.results102, go_sem]) rfl ⟨_, rfl, ⟨_, _, _, rfl⟩, ?_⟩
  exact (((Q.refl w).cells _ _).cells _ _).cells _ _
set_option maxHeartbeats 4000000 in
set_option maxRecDepth 1000000 in
theorem div_nan2 (va vb : Value) (x : RNum) (w : World) (hx : NumAt w va x) (hy : NumAt w vb .nan) (hk : ∀ k s p L C e m, va = .agg #[.int .i64 k, .bool s, .slice p L C, .int .i64 e, .bool m] → k ≠ 0) :
    Calls Tryz.prog 102 #[va, vb] w fun e w' => ∃ v, e = .returned v ∧ NumAt w' v .nan ∧ Q w w' := by
  obtain ⟨b, e, m, rfl⟩ := hy
  obtain ⟨k, s, p, L, C, ee, mm, rfl⟩ := hx.made
  have hk0 : (k == 0) = false := by simpa using hk _ _ _ _ _ _ _ rfl
  clear hx hk
  go_enter Tryz.func102, Tryz.ntmps102
  go_wp2_with fail
  refine bodyPost_ret (v := .agg #[.int .i64 0, .bool false, .slice none 0 0, .int .i64 0, .bool false]) (by simp [results, Tryz.results102, go_sem]) rfl ⟨_, rfl, ⟨_, _, _, rfl⟩, ?_⟩
  exact (((Q.refl w).cells _ _).cells _ _).cells _ _
set_option maxHeartbeats 4000000 in
set_option maxRecDepth 1000000 in
theorem div_infinf (va vb : Value) (s t : Bool) (w : World) (hx : NumAt w va (.inf s)) (hy : NumAt w vb (.inf t)) :
    Calls Tryz.prog 102 #[va, vb] w fun e w' => ∃ v, e = .returned v ∧ NumAt w' v .nan ∧ Q w w' := by
  obtain ⟨e, m, rfl⟩ := hx
  obtain ⟨e', m', rfl⟩ := hy
  go_enter Tryz.func102, Tryz.ntmps102
  go_wp2_with fail
  refine bodyPost_ret (v := .agg #[.int .i64 0, .bool false, .slice none 0 0, .int .i64 0, .bool false]) (by simp [results, Tryz.results102, go_sem]) rfl ⟨_, rfl, ⟨_, _, _, rfl⟩, ?_⟩
  exact (((Q.refl w).cells _ _).cells _ _).cells _ _
set_option maxHeartbeats 4000000 in
set_option maxRecDepth 1000000 in
theorem div_inffin (va vb : Value) (s t : Bool) (n : Nat) (f : Int) (g : Bool) (w : World) (hx : NumAt w va (.inf s)) (hy : NumAt w vb (.fin t n f g)) :
    Calls Tryz.prog 102 #[va, vb] w fun e w' => ∃ v, e = .returned v ∧ NumAt w' v (.inf (s != t)) ∧ Q w w' := by
  obtain ⟨e, m, rfl⟩ := hx
  obtain ⟨nv, rfl, p, b, L, C, rfl, hn⟩ := hy
  go_enter Tryz.func102, Tryz.ntmps102
  go_wp2_with fail
  refine (zero_any _ (.inf s) _ ⟨_, _, rfl⟩).mono ?_
  rintro x w1 ⟨rfl, c1, rfl⟩
  rw [show zeroB (.inf s) = false from rfl]
  go_wp2_with fail
  refine bodyPost_ret (v := .agg #[.int .i64 1, .bool (s != t), .slice none 0 0, .int .i64 0, .bool false]) (by cases s <;> cases t <;> simp [results, Tryz.results102, go_sem]) rfl ⟨_, rfl, ⟨_, _, rfl⟩, ?_⟩
  exact ((((Q.refl w).cells _ _).cells _ _).cells _ _).cells _ _
set_option maxHeartbeats 4000000 in
set_option maxRecDepth 1000000 in
theorem div_fininf (va vb : Value) (s t : Bool) (n : Nat) (f : Int) (g : Bool) (w : World) (hx : NumAt w va (.fin s n f g)) (hy : NumAt w vb (.inf t)) :
    Calls Tryz.prog 102 #[va, vb] w fun e w' => ∃ v, e = .returned v ∧ NumAt w' v (.fin (s != t) 0 0 false) ∧ Q w w' := by
  obtain ⟨e, m, rfl⟩ := hy
  have HX : Hid _ := hx
  obtain ⟨nv, rfl, p, b, L, C, rfl, hn⟩ := hx
  clear hn
  cases hZ : zeroB (.fin s n f g)
  · have HZ : Hid _ := hZ
    clear hZ
    go_enter Tryz.func102, Tryz.ntmps102
    go_wp2_with fail
    refine (zero_any _ (.fin s n f g) _ (((((Q.refl w).cells _ _).cells _ _).cells _ _) |>.num HX.out)).mono ?_
    rintro x w1 ⟨rfl, c1, rfl⟩
    rw [HZ.out]
    go_wp2_with fail
    refine (zero_any _ (.inf t) _ ⟨_, _, rfl⟩).mono ?_
    rintro x w1 ⟨rfl, c2, rfl⟩
    rw [show zeroB (.inf t) = false from rfl]
    go_wp2_with fail
    refine bodyPost_ret (v := .agg #[.int .i64 2, .bool (s != t), .slice none 0 0, .int .i64 0, .bool false]) (by cases s <;> cases t <;> simp [results, Tryz.results102, go_sem]) rfl ⟨_, rfl, ⟨_, rfl, nat_nil _⟩, ?_⟩
    exact (((((Q.refl w).cells _ _).cells _ _).cells _ _).cells _ _).cells _ _
  · have HZ : Hid _ := hZ
    clear hZ
    go_enter Tryz.func102, Tryz.ntmps102
    go_wp2_with fail
    refine (zero_any _ (.fin s n f g) _ (((((Q.refl w).cells _ _).cells _ _).cells _ _) |>.num HX.out)).mono ?_
    rintro x w1 ⟨rfl, c1, rfl⟩
    rw [HZ.out]
    go_wp2_with fail
    refine (zero_any _ (.inf t) _ ⟨_, _, rfl⟩).mono ?_
    rintro x w1 ⟨rfl, c2, rfl⟩
    rw [show zeroB (.inf t) = false from rfl]
    go_wp2_with fail
    refine (zero_any _ (.inf t) _ ⟨_, _, rfl⟩).mono ?_
    rintro x w1 ⟨rfl, c3, rfl⟩
    rw [show zeroB (.inf t) = false from rfl]
    go_wp2_with fail
    refine bodyPost_ret (v := .agg #[.int .i64 2, .bool (s != t), .slice none 0 0, .int .i64 0, .bool false]) (by cases s <;> cases t <;> simp [results, Tryz.results102, go_sem]) rfl ⟨_, rfl, ⟨_, rfl, nat_nil _⟩, ?_⟩
    exact ((((((Q.refl w).cells _ _).cells _ _).cells _ _).cells _ _).cells _ _).cells _ _
set_option maxHeartbeats 4000000 in
set_option maxRecDepth 1000000 in
theorem div_nought (va vb : Value) (s t : Bool) (n k : Nat) (e f : Int) (g h : Bool) (w : World) (hx : NumAt w va (.fin s n e g)) (hy : NumAt w vb (.fin t k f h)) (hz : zeroB (.fin s n e g) = true ∨ zeroB (.fin t k f h) = true) :
    Calls Tryz.prog 102 #[va, vb] w fun y w' => ∃ v, y = .returned v ∧ NumAt w' v (if zeroB (.fin t k f h) = true then (if zeroB (.fin s n e g) = true then .nan else .inf (s != t)) else .fin (s != t) 0 0 false) ∧ Q w w' := by
  have HX : Hid _ := hx
  have HY : Hid _ := hy
  obtain ⟨nv, rfl, p, b, L, C, rfl, hn⟩ := hx
  obtain ⟨kv, rfl, p', b', L', C', rfl, hk⟩ := hy
  clear hn hk
  cases hA : zeroB (.fin s n e g) <;> cases hB : zeroB (.fin t k f h)
  · rw [hA, hB] at hz; simp at hz
  · have HA : Hid _ := hA
    have HB : Hid _ := hB
    clear hA hB hz
    rw [if_pos rfl, if_neg Bool.false_ne_true]
    go_enter Tryz.func102, Tryz.ntmps102
    go_wp2_with fail
    refine (zero_any _ (.fin s n e g) _ (((((Q.refl w).cells _ _).cells _ _).cells _ _) |>.num HX.out)).mono ?_
    rintro x w1 ⟨rfl, c1, rfl⟩
    rw [HA.out]
    go_wp2_with fail
    refine (zero_any _ (.fin t k f h) _ ((((((Q.refl w).cells _ _).cells _ _).cells _ _).cells _ _) |>.num HY.out)).mono ?_
    rintro x w1 ⟨rfl, c2, rfl⟩
    rw [HB.out]
    go_wp2_with fail
    refine bodyPost_ret (v := .agg #[.int .i64 1, .bool (s != t), .slice none 0 0, .int .i64 0, .bool false]) (by cases s <;> cases t <;> simp [results, Tryz.results102, go_sem]) rfl ⟨_, rfl, ⟨_, _, rfl⟩, ?_⟩
    exact (((((Q.refl w).cells _ _).cells _ _).cells _ _).cells _ _).cells _ _
  · have HA : Hid _ := hA
    have HB : Hid _ := hB
    clear hA hB hz
    rw [if_neg Bool.false_ne_true]
    go_enter Tryz.func102, Tryz.ntmps102
    go_wp2_with fail
    refine (zero_any _ (.fin s n e g) _ (((((Q.refl w).cells _ _).cells _ _).cells _ _) |>.num HX.out)).mono ?_
    rintro x w1 ⟨rfl, c1, rfl⟩
    rw [HA.out]
    go_wp2_with fail
    refine (zero_any _ (.fin t k f h) _ ((((((Q.refl w).cells _ _).cells _ _).cells _ _).cells _ _) |>.num HY.out)).mono ?_
    rintro x w1 ⟨rfl, c2, rfl⟩
    rw [HB.out]
    go_wp2_with fail
    refine (zero_any _ (.fin t k f h) _ (((((((Q.refl w).cells _ _).cells _ _).cells _ _).cells _ _).cells _ _) |>.num HY.out)).mono ?_
    rintro x w1 ⟨rfl, c3, rfl⟩
    rw [HB.out]
    go_wp2_with fail
    refine (zero_any _ (.fin s n e g) _ ((((((((Q.refl w).cells _ _).cells _ _).cells _ _).cells _ _).cells _ _).cells _ _) |>.num HX.out)).mono ?_
    rintro x w1 ⟨rfl, c4, rfl⟩
    rw [HA.out]
    go_wp2_with fail
    refine bodyPost_ret (v := .agg #[.int .i64 2, .bool (s != t), .slice none 0 0, .int .i64 0, .bool false]) (by cases s <;> cases t <;> simp [results, Tryz.results102, go_sem]) rfl ⟨_, rfl, ⟨_, rfl, nat_nil _⟩, ?_⟩
    exact (((((((Q.refl w).cells _ _).cells _ _).cells _ _).cells _ _).cells _ _).cells _ _).cells _ _
  · have HA : Hid _ := hA
    have HB : Hid _ := hB
    clear hA hB hz
    rw [if_pos rfl, if_pos rfl]
    go_enter Tryz.func102, Tryz.ntmps102
    go_wp2_with fail
    refine (zero_any _ (.fin s n e g) _ (((((Q.refl w).cells _ _).cells _ _).cells _ _) |>.num HX.out)).mono ?_
    rintro x w1 ⟨rfl, c1, rfl⟩
    rw [HA.out]
    go_wp2_with fail
    refine (zero_any _ (.fin t k f h) _ ((((((Q.refl w).cells _ _).cells _ _).cells _ _).cells _ _) |>.num HY.out)).mono ?_
    rintro x w1 ⟨rfl, c2, rfl⟩
    rw [HB.out]
    go_wp2_with fail
    refine bodyPost_ret (v := .agg #[.int .i64 0, .bool false, .slice none 0 0, .int .i64 0, .bool false]) (by simp [results, Tryz.results102, go_sem]) rfl ⟨_, rfl, ⟨_, _, _, rfl⟩, ?_⟩
    exact (((((Q.refl w).cells _ _).cells _ _).cells _ _).cells _ _).cells _ _
end Go.Proofs.YtieojgblamkgoaaGreatDoor
/- What the reference's Add, Scale and Half return of whatever samples: the exact number, rounded. -/
namespace Go.Proofs.YtieojgblamkgoaaGreatDoor
open Go.RowKit

end Go.Proofs.YtieojgblamkgoaaGreatDoor
