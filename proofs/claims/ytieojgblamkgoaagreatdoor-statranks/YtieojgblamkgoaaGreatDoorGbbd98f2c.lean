/- What the reference's DivNum returns of two numbers that are not 0: the quotient to 60 digits and more, and whether something is left. -/
import Derived.Test.YtieojgblamkgoaaGreatDoorG90fa32cd
import Derived.Test.YtieojgblamkgoaaGreatDoorGdf44e40f
import Derived.Test.YtieojgblamkgoaaGreatDoorG18fb3a0f
import Derived.Test.YtieojgblamkgoaaGreatDoorGa2b31cb4
namespace Go.Proofs.YtieojgblamkgoaaGreatDoor
open Go.RowKit

/-- By how much the dividend is shifted. -/
def shV (n k : Nat) : Nat := 60 + (blen k - blen n)
theorem div_start {A d : Nat} (hd : 0 < d) (h : blen d ≤ blen A) : A < d * 2 ^ (blen A - blen d + 1) := by
  have h1 := blen_lt A
  have h2 : 2 ^ (blen d - 1) ≤ d := by
    unfold blen
    rw [if_neg (by omega)]
    exact Nat.log2_self_le (by omega)
  have h3 : 0 < blen d := by unfold blen; rw [if_neg (by omega)]; omega
  have h4 : 2 ^ (blen d - 1) * 2 ^ (blen A - blen d + 1) ≤ d * 2 ^ (blen A - blen d + 1) := Nat.mul_le_mul_right _ h2
  rw [← Nat.pow_add, show blen d - 1 + (blen A - blen d + 1) = blen A by omega] at h4
  omega
theorem div_step {rest d g : Nat} (h : rest < d * 2 ^ (g + 1)) (hge : d * 2 ^ g ≤ rest) : rest - d * 2 ^ g < d * 2 ^ g := by
  rw [Nat.pow_succ, ← Nat.mul_assoc] at h
  omega
theorem div_end {A d q rest : Nat} (h : rest + d * q = A) (hr : rest < d * 2 ^ 0) : q = A / d ∧ rest = A % d := by
  rw [Nat.pow_zero, Nat.mul_one] at hr
  have hd : 0 < d := by omega
  constructor
  · rw [← h, Nat.add_mul_div_left _ _ hd, Nat.div_eq_of_lt hr, Nat.zero_add]
  · rw [← h, Nat.add_mul_mod_self_left, Nat.mod_eq_of_lt hr]
theorem blen_mul_pow {n : Nat} (h : n ≠ 0) (k : Nat) : blen (n * 2 ^ k) = blen n + k := by
  unfold blen
  rw [if_neg h, if_neg (Nat.mul_ne_zero h (by have := Nat.two_pow_pos k; omega)), log2_mul_pow h]
  omega

set_option maxHeartbeats 8000000 in
set_option maxRecDepth 1000000 in
theorem div_fin (s t : Bool) (va vb : Value) (n k : Nat) (e f : Int) (w : World) (hn : NatAt w va n) (hk : NatAt w vb k) (n0 : n ≠ 0) (k0 : k ≠ 0)
    (n1 : blen n ≤ 500) (e0 : -1000 ≤ e) (e1 : e ≤ 1000) (k1 : blen k ≤ 500) (f0 : -1000 ≤ f) (f1 : f ≤ 1000) :
    Calls Tryz.prog 102 #[.agg #[.int .i64 2, .bool s, va, .int .i64 e, .bool false], .agg #[.int .i64 2, .bool t, vb, .int .i64 f, .bool false]] w
      fun x w' => ∃ v, x = .returned v ∧ NumAt w' v (.fin (s != t) (n * 2 ^ shV n k / k) (e - f - (shV n k : Int)) (!decide (n * 2 ^ shV n k % k = 0))) ∧ Q w w' := by
  obtain ⟨pa, ba, La, Ca, rfl, hnI⟩ := hn
  obtain ⟨pb, bb, Lb, Cb, rfl, hkI⟩ := hk
  have HNA : Hid (NatAt w (.slice pa La Ca) n) := ⟨pa, ba, La, Ca, rfl, hnI⟩
  have HKA : Hid (NatAt w (.slice pb Lb Cb) k) := ⟨pb, bb, Lb, Cb, rfl, hkI⟩
  obtain ⟨sh, hsh⟩ : ∃ sh, sh = shV n k := ⟨_, rfl⟩
  rw [← hsh]
  have hshb : sh ≤ 560 := by rw [hsh]; unfold shV; omega
  obtain ⟨A, hA⟩ : ∃ A, A = n * 2 ^ sh := ⟨_, rfl⟩
  rw [← hA]
  have hAb : blen A = blen n + sh := by rw [hA]; exact blen_mul_pow n0 sh
  have HAC : Hid (A < cap) := lt_cap (blen_lt A) (by omega)
  have hle : blen k ≤ blen A := by rw [hAb, hsh]; unfold shV; omega
  have HST : Hid _ := div_start (A := A) (d := k) (by omega) hle
  have zn : zeroB (.fin s n e false) = false := by show (decide (n = 0) && !false) = false; rw [decide_eq_false n0]; rfl
  have zk : zeroB (.fin t k f false) = false := by show (decide (k = 0) && !false) = false; rw [decide_eq_false k0]; rfl
  have HZN : Hid _ := zn
  have HZK : Hid _ := zk
  have HSH : Hid _ := hsh
  have HA : Hid _ := hA
  obtain ⟨I, hI⟩ : ∃ I, I = blen A - blen k := ⟨_, rfl⟩
  have HI : Hid _ := hI
  have hIz : (blen A : Int) - (blen k : Int) = (I : Int) := by omega
  have hIb : I ≤ 2000 := by omega
  have HCY : Hid (∀ i, i ≤ 2000 → k * 2 ^ i < cap) := fun i hi => lt_cap (shifted_lt k i (Nat.le_refl _)) (by omega)
  have HC2 : Hid (∀ i, i ≤ 2000 → 1 * 2 ^ i < cap) := fun i hi => lt_cap (k := i + 1) (by rw [Nat.one_mul]; exact Nat.pow_lt_pow_right (by decide) (by omega)) (by omega)
  have hk1 : 1 ≤ k := by omega
  clear zn zk hsh hA hI hle hAb
  go_enter Tryz.func102, Tryz.ntmps102
  go_wp2_with fail
  refine (zero_any _ (.fin s n e false) _ ((((Q.refl w).cells _ _).cells _ _).cells _ _ |>.num ⟨_, rfl, HNA.out⟩)).mono ?_
  rintro x w1 ⟨rfl, c1, rfl⟩
  rw [HZN.out]
  go_wp2_with fail
  refine (zero_any _ (.fin t k f false) _ (((((Q.refl w).cells _ _).cells _ _).cells _ _).cells _ _ |>.num ⟨_, rfl, HKA.out⟩)).mono ?_
  rintro x w1 ⟨rfl, c2, rfl⟩
  rw [HZK.out]
  go_wp2_with fail
  refine (zero_any _ (.fin s n e false) _ ((((((Q.refl w).cells _ _).cells _ _).cells _ _).cells _ _).cells _ _ |>.num ⟨_, rfl, HNA.out⟩)).mono ?_
  rintro x w1 ⟨rfl, c3, rfl⟩
  rw [HZN.out]
  go_upto_region 8 with fail
  go_cut [6] from 11 (fun s6 wc => s6 = .int .i64 sh ∧ TBox w wc (.slice pa La Ca) (.slice pb Lb Cb) e f)
  case first =>
    have wk : IntKind.i64.wrap ((blen k : Int) - (blen n : Int)) = (blen k : Int) - (blen n : Int) := by rw [IntKind.wrap_i64]; omega
    have qw := ((((((Q.refl w).cells #[.int .i64 2, .bool s, .slice pa La Ca, .int .i64 e, .bool false] 138).cells #[.int .i64 2, .bool t, .slice pb Lb Cb, .int .i64 f, .bool false] 138).cells #[.int .i64 0, .bool false, .slice none 0 0, .int .i64 0, .bool false] 138).cells c1 138).cells c2 138).cells c3 138
    go_region_held3 (fun w' => w'.cell? ⟨w.heap.size, 2, none⟩ = some (.slice pa La Ca) ∧ w'.cell? ⟨w.heap.size + 1, 2, none⟩ = some (.slice pb Lb Cb)) (first | (simp [go_sem]; done)) (first | (go_at_call_of 118 (Value.slice pb Lb Cb); refine (bits_any _ k _ (Q.nat qw.drew HKA.out)).mono ?_; rintro x v1 ⟨rfl, rfl⟩) | (go_at_call_of 118 (Value.slice pa La Ca); refine (bits_any _ n _ (Q.nat qw.drew HNA.out)).mono ?_; rintro x v1 ⟨rfl, rfl⟩))
    all_goals go_wp2_with fail
    all_goals
      go_meet
      case rel =>
        go_light
        refine ⟨congrArg (Value.int .i64) (by rw [IntKind.wrap_i64]; have := HSH.out; unfold shV at this; omega), qw.drew, by simp [go_sem], by simp [go_sem], by simp [go_sem], by simp [go_sem], ⟨by simp [go_sem], by simp [go_sem], by simp [go_sem], by simp [go_sem], by simp [go_sem], fun i => by simp [go_sem]⟩⟩
  case rest =>
    obtain ⟨rfl, hB⟩ := hcut
    have a2 := hB.a2
    have b2 := hB.b2
    go_wp2_with fail
    refine (up_any _ n sh _ (hB.q.nat HNA.out) (by rw [← HA.out]; exact HAC.out)).mono ?_
    rintro x w1 ⟨v1, rfl, hv1, q1⟩
    rw [← HA.out] at hv1
    have hB1 := hB.next q1
    have b2 := hB1.b2
    have HV1 : Hid _ := hv1
    clear hv1 hB a2
    go_upto_region 11 with fail
    go_cut [9] from 11 (fun s9 wc => s9 = .int .i64 I ∧ Q w1 wc)
    case first =>
      have wI : IntKind.i64.wrap (I : Int) = (I : Int) := by rw [IntKind.wrap_i64]; omega
      go_region_held3 (fun w' => w'.cell? ⟨w.heap.size + 1, 2, none⟩ = some (.slice pb Lb Cb) ∧ True) (first | (refine ⟨?_, trivial⟩; assumption) | (simp [b2]; done)) (first | (go_at_call_of 118 (Value.slice pb Lb Cb); refine (bits_any _ k _ (Q.nat (hB1.q.drew) HKA.out)).mono ?_; rintro x v2 ⟨rfl, rfl⟩) | (go_at_call_of 118 v1; refine (bits_any _ A _ (Q.nat (Q.refl _).drew HV1.out)).mono ?_; rintro x v2 ⟨rfl, rfl⟩))
      all_goals
        go_wp2_with fail
        go_meet
        case rel => go_light; exact ⟨rfl, (Q.refl _).drew⟩
    case rest =>
      obtain ⟨rfl, q2⟩ := hcut
      have hB2 := hB1.next q2
      have HV2 : Hid _ := q2.nat HV1.out
      clear hB1 b2 q2 q1 HV1
      go_wp2_with fail
      go_loopg [7, 8, 9] (I + 1) (fun g s7 s8 s9 wr => ∃ rest q : Nat, NatAt wr s7 rest ∧ NatAt wr s8 q ∧ rest + k * q = A ∧ rest < k * 2 ^ g ∧ ((g = 0 ∧ s9 = .int .i64 (-1)) ∨ ∃ i : Nat, g = i + 1 ∧ i ≤ 2000 ∧ s9 = .int .i64 i) ∧ TBox w wr (.slice pa La Ca) (.slice pb Lb Cb) e f)
      case atStart => exact ⟨A, 0, HV2.out, nat_nil _, by rw [Nat.mul_zero, Nat.add_zero], by rw [HI.out]; exact HST.out, Or.inr ⟨I, rfl, hIb, rfl⟩, hB2⟩
      case round =>
        obtain ⟨rest, q, h7, h8, hrq, hlt, ⟨rfl, rfl⟩ | ⟨i, rfl, hi, rfl⟩, hB3⟩ := hrel
        · obtain ⟨hq, hr⟩ := div_end hrq hlt
          obtain ⟨p8, b8, L8, C8, rfl, hI8⟩ := h8
          obtain ⟨p7, b7, L7, C7, rfl, hI7⟩ := h7
          have hz := hI7.pos
          have a3 := hB3.a3
          have b3 := hB3.b3
          have d0 := hB3.r.c0
          have d1 := hB3.r.c1
          have d2 := hB3.r.c2
          have d3 := hB3.r.c3
          have d4 := hB3.r.c4
          have y0 := hB3.r.z 0
          have y1 := hB3.r.z 1
          have y2 := hB3.r.z 2
          have y3 := hB3.r.z 3
          have y4 := hB3.r.z 4
          have HQ : Hid _ := hq
          have HRR : Hid _ := hr
          have HZZ : Hid _ := hz
          clear hq hr hz hrq hlt hI7 hIz
          go_wp2_with fail
          refine bodyPost_ret (v := .agg #[.int .i64 2, .bool (s != t), .slice p8 L8 C8, .int .i64 (e - f - (sh : Int)), .bool (decide (0 < (L7 : Int)))]) (by cases s <;> cases t <;> simp [results, Tryz.results102, go_sem, d0, d1, d2, d3, d4]) rfl ⟨_, rfl, ?_, ?_⟩
          · rw [← HQ.out, show (!decide (A % k = 0)) = decide (0 < (L7 : Int)) from by
              rw [← HRR.out]
              by_cases g : rest = 0
              · rw [decide_eq_true g, decide_eq_false (by have := HZZ.out.1 g; omega)]; rfl
              · rw [decide_eq_false g, decide_eq_true (by have : L7 ≠ 0 := fun c => g (HZZ.out.2 c); omega)]; rfl]
            exact ⟨_, rfl, natAt_but ⟨p8, b8, L8, C8, rfl, hI8⟩ d0 (fun a ha => by repeat rw [set_but _ ha])⟩
          · exact ((((hB3.q.set (far2 w) _).set (far2 w) _).set (far2 w) _).set (far2 w) _).set (far2 w) _
        · have hiz : (0 : Int) ≤ (i : Int) := by omega
          have b2 := hB3.b2
          have HRQ : Hid _ := hrq
          have HLT : Hid _ := hlt
          clear hrq hlt
          go_wp2_with fail
          refine (up_any _ k i _ (hB3.q.nat HKA.out) (HCY.out i hi)).mono ?_
          rintro x w4 ⟨v4, rfl, hv4, q4⟩
          have h7' := q4.nat h7
          have h8' := q4.nat h8
          have hB4 := hB3.next q4
          go_wp2_with fail
          refine (compare_any _ _ rest (k * 2 ^ i) _ h7' hv4).mono ?_
          rintro x w5 ⟨rfl, q5⟩
          have HH7 : Hid _ := q5.nat h7'
          have HH8 : Hid _ := q5.nat h8'
          have HHY : Hid _ := q5.nat hv4
          have hB5 := hB4.next q5
          clear h7 h8 h7' h8' hv4 hB3 hB4
          by_cases hc : k * 2 ^ i ≤ rest
          · have ec : cmpV rest (k * 2 ^ i) = 0 ∨ cmpV rest (k * 2 ^ i) = 1 := by
              unfold cmpV
              rw [if_neg (by omega)]
              split <;> simp
            have HC : Hid _ := hc
            have hrA : rest ≤ A := by have := HRQ.out; omega
            have HR1 : Hid (rest < cap) := Nat.lt_of_le_of_lt hrA HAC.out
            have HR2 : Hid (q + 1 * 2 ^ i < cap) := by
              refine Nat.lt_of_le_of_lt ?_ HAC.out
              have h1 : 1 * q ≤ k * q := Nat.mul_le_mul_right _ hk1
              have h2 : 1 * 2 ^ i ≤ k * 2 ^ i := Nat.mul_le_mul_right _ hk1
              have := HRQ.out
              omega
            clear hrA hc
            rcases ec with ec | ec
            all_goals
              rw [ec]
              clear ec
              go_wp2_with fail
              refine (minus_any _ _ rest (k * 2 ^ i) _ HH7.out HHY.out HR1.out HC.out).mono ?_
              rintro x w6 ⟨v6, rfl, hv6, q6⟩
              go_wp2_with fail
              refine (natof_nat 1 _ (by decide)).mono ?_
              rintro x w7 ⟨v7, rfl, hv7, q7⟩
              go_wp2_with fail
              refine (up_any _ 1 i _ hv7 (HC2.out i hi)).mono ?_
              rintro x w8 ⟨v8, rfl, hv8, q8⟩
              go_wp2_with fail
              refine (plus_any _ _ q (1 * 2 ^ i) _ ((((q6.trans q7).trans q8)).nat HH8.out) hv8 HR2.out).mono ?_
              rintro x w9 ⟨v9, rfl, hv9, q9⟩
              go_wp2_with fail
              go_roundg i
              case measure => go_light; omega
              case rel =>
                go_light
                refine ⟨rest - k * 2 ^ i, q + 1 * 2 ^ i, ((q7.trans q8).trans q9).nat hv6, hv9, ?_, div_step HLT.out HC.out, ?_, (((hB5.next q6).next q7).next q8).next q9⟩
                · have h1 := HRQ.out
                  have h2 := HC.out
                  rw [Nat.one_mul, Nat.mul_add]
                  omega
                · rcases Nat.eq_zero_or_pos i with h0 | h0
                  · exact Or.inl ⟨h0, by rw [h0]; rfl⟩
                  · exact Or.inr ⟨i - 1, by omega, by omega, congrArg (Value.int .i64) (by omega)⟩
          · have ec : cmpV rest (k * 2 ^ i) = -1 := by unfold cmpV; rw [if_pos (by omega)]
            rw [ec]
            clear ec
            go_wp2_with fail
            go_roundg i
            case measure => go_light; omega
            case rel =>
              go_light
              refine ⟨rest, q, HH7.out, HH8.out, HRQ.out, by omega, ?_, hB5⟩
              rcases Nat.eq_zero_or_pos i with h0 | h0
              · exact Or.inl ⟨h0, by rw [h0]; rfl⟩
              · exact Or.inr ⟨i - 1, by omega, by omega, congrArg (Value.int .i64) (by omega)⟩
end Go.Proofs.YtieojgblamkgoaaGreatDoor
/- What the reference's DivNum returns where one of the two is no finite number, or is 0. -/
namespace Go.Proofs.YtieojgblamkgoaaGreatDoor
open Go.RowKit

set_option maxHeartbeats 4000000 in
set_option maxRecDepth 1000000 in
theorem div_nan1 (va vb : Value) (y : RNum) (w : World) (hx : NumAt w va .nan) (hy : NumAt w vb y) :
    Calls Tryz.prog 102 #[va, vb] w fun e w' => ∃ v, e = .returned v ∧ NumAt w' v .nan ∧ Q w w' := by
  obtain ⟨b, e, m, rfl⟩ := hx
  obtain ⟨k, s, p, L, C, ee, mm, rfl⟩ := hy.made
  clear hy
  go_enter Tryz.func102, Tryz.ntmps102
  go_wp2_with fail
  refine bodyPost_ret (v := .agg #[.int .i64 0, .bool false, .slice none 0 0, .int .i64 0, .bool false]) (by simp [results, Tryz.results102, go_sem]) rfl ⟨_, rfl, ⟨_, _, _, rfl⟩, ?_⟩
  exact (((Q.refl w).cells _ _).cells _ _).cells _ _
set_option maxHeartbeats 4000000 in
set_option maxRecDepth 1000000 in
theorem div_nan2 (va vb : Value) (x : RNum) (w : World) (hx : NumAt w va x) (hy : NumAt w vb .nan) (hk : ∀ k s p L C e m, va = .agg #[.int .i64 k, .bool s, .slice p L C, .int .i64 e, .bool m] → k ≠ 0) :
    Calls Tryz.prog 102 #[va, vb] w fun e w' => ∃ v, e = .returned v ∧ NumAt w' v .nan ∧ Q w w' := by
  obtain ⟨b, e, m, rfl⟩ := hy
  obtain ⟨k, s, p, L, C, ee, mm, rfl⟩ := hx.made
  have hk0 : (k == 0) = false := by simpa using hk _ _ _ _ _ _ _ rfl
  clear hx hk
  go_enter Tryz.func102, Tryz.ntmps102
  go_wp2_with fail
  refine bodyPost_ret (v := .agg #[.int .i64 0, .bool false, .slice none 0 0, .int .i64 0, .bool false]) (by simp [results, Tryz.results102, go_sem]) rfl ⟨_, rfl, ⟨_, _, _, rfl⟩, ?_⟩
  exact (((Q.refl w).cells _ _).cells _ _).cells _ _
set_option maxHeartbeats 4000000 in
set_option maxRecDepth 1000000 in
theorem div_infinf (va vb : Value) (s t : Bool) (w : World) (hx : NumAt w va (.inf s)) (hy : NumAt w vb (.inf t)) :
    Calls Tryz.prog 102 #[va, vb] w fun e w' => ∃ v, e = .returned v ∧ NumAt w' v .nan ∧ Q w w' := by
  obtain ⟨e, m, rfl⟩ := hx
  obtain ⟨e', m', rfl⟩ := hy
  go_enter Tryz.func102, Tryz.ntmps102
  go_wp2_with fail
  refine bodyPost_ret (v := .agg #[.int .i64 0, .bool false, .slice none 0 0, .int .i64 0, .bool false]) (by simp [results, Tryz.results102, go_sem]) rfl ⟨_, rfl, ⟨_, _, _, rfl⟩, ?_⟩
  exact (((Q.refl w).cells _ _).cells _ _).cells _ _
set_option maxHeartbeats 4000000 in
set_option maxRecDepth 1000000 in
theorem div_inffin (va vb : Value) (s t : Bool) (n : Nat) (f : Int) (g : Bool) (w : World) (hx : NumAt w va (.inf s)) (hy : NumAt w vb (.fin t n f g)) :
    Calls Tryz.prog 102 #[va, vb] w fun e w' => ∃ v, e = .returned v ∧ NumAt w' v (.inf (s != t)) ∧ Q w w' := by
  obtain ⟨e, m, rfl⟩ := hx
  obtain ⟨nv, rfl, p, b, L, C, rfl, hn⟩ := hy
  go_enter Tryz.func102, Tryz.ntmps102
  go_wp2_with fail
  refine (zero_any _ (.inf s) _ ⟨_, _, rfl⟩).mono ?_
  rintro x w1 ⟨rfl, c1, rfl⟩
  rw [show zeroB (.inf s) = false from rfl]
  go_wp2_with fail
  refine bodyPost_ret (v := .agg #[.int .i64 1, .bool (s != t), .slice none 0 0, .int .i64 0, .bool false]) (by cases s <;> cases t <;> simp [results, Tryz.results102, go_sem]) rfl ⟨_, rfl, ⟨_, _, rfl⟩, ?_⟩
  exact ((((Q.refl w).cells _ _).cells _ _).cells _ _).cells _ _
set_option maxHeartbeats 4000000 in
set_option maxRecDepth 1000000 in
theorem div_fininf (va vb : Value) (s t : Bool) (n : Nat) (f : Int) (g : Bool) (w : World) (hx : NumAt w va (.fin s n f g)) (hy : NumAt w vb (.inf t)) :
    Calls Tryz.prog 102 #[va, vb] w fun e w' => ∃ v, e = .returned v ∧ NumAt w' v (.fin (s != t) 0 0 false) ∧ Q w w' := by
  obtain ⟨e, m, rfl⟩ := hy
  have HX : Hid _ := hx
  obtain ⟨nv, rfl, p, b, L, C, rfl, hn⟩ := hx
  clear hn
  cases hZ : zeroB (.fin s n f g)
  · have HZ : Hid _ := hZ
    clear hZ
    go_enter Tryz.func102, Tryz.ntmps102
    go_wp2_with fail
    refine (zero_any _ (.fin s n f g) _ (((((Q.refl w).cells _ _).cells _ _).cells _ _) |>.num HX.out)).mono ?_
    rintro x w1 ⟨rfl, c1, rfl⟩
    rw [HZ.out]
    go_wp2_with fail
    refine (zero_any _ (.inf t) _ ⟨_, _, rfl⟩).mono ?_
    rintro x w1 ⟨rfl, c2, rfl⟩
    rw [show zeroB (.inf t) = false from rfl]
    go_wp2_with fail
    refine bodyPost_ret (v := .agg #[.int .i64 2, .bool (s != t), .slice none 0 0, .int .i64 0, .bool false]) (by cases s <;> cases t <;> simp [results, Tryz.results102, go_sem]) rfl ⟨_, rfl, ⟨_, rfl, nat_nil _⟩, ?_⟩
    exact (((((Q.refl w).cells _ _).cells _ _).cells _ _).cells _ _).cells _ _
  · have HZ : Hid _ := hZ
    clear hZ
    go_enter Tryz.func102, Tryz.ntmps102
    go_wp2_with fail
    refine (zero_any _ (.fin s n f g) _ (((((Q.refl w).cells _ _).cells _ _).cells _ _) |>.num HX.out)).mono ?_
    rintro x w1 ⟨rfl, c1, rfl⟩
    rw [HZ.out]
    go_wp2_with fail
    refine (zero_any _ (.inf t) _ ⟨_, _, rfl⟩).mono ?_
    rintro x w1 ⟨rfl, c2, rfl⟩
    rw [show zeroB (.inf t) = false from rfl]
    go_wp2_with fail
    refine (zero_any _ (.inf t) _ ⟨_, _, rfl⟩).mono ?_
    rintro x w1 ⟨rfl, c3, rfl⟩
    rw [show zeroB (.inf t) = false from rfl]
    go_wp2_with fail
    refine bodyPost_ret (v := .agg #[.int .i64 2, .bool (s != t), .slice none 0 0, .int .i64 0, .bool false]) (by cases s <;> cases t <;> simp [results, Tryz.results102, go_sem]) rfl ⟨_, rfl, ⟨_, rfl, nat_nil _⟩, ?_⟩
    exact ((((((Q.refl w).cells _ _).cells _ _).cells _ _).cells _ _).cells _ _).cells _ _
set_option maxHeartbeats 4000000 in
set_option maxRecDepth 1000000 in
theorem div_nought (va vb : Value) (s t : Bool) (n k : Nat) (e f : Int) (g h : Bool) (w : World) (hx : NumAt w va (.fin s n e g)) (hy : NumAt w vb (.fin t k f h)) (hz : zeroB (.fin s n e g) = true ∨ zeroB (.fin t k f h) = true) :
    Calls Tryz.prog 102 #[va, vb] w fun y w' => ∃ v, y = .returned v ∧ NumAt w' v (if zeroB (.fin t k f h) = true then (if zeroB (.fin s n e g) = true then .nan else .inf (s != t)) else .fin (s != t) 0 0 false) ∧ Q w w' := by
  have HX : Hid _ := hx
  have HY : Hid _ := hy
  obtain ⟨nv, rfl, p, b, L, C, rfl, hn⟩ := hx
  obtain ⟨kv, rfl, p', b', L', C', rfl, hk⟩ := hy
  clear hn hk
  cases hA : zeroB (.fin s n e g) <;> cases hB : zeroB (.fin t k f h)
  · rw [hA, hB] at hz; simp at hz
  · have HA : Hid _ := hA
    have HB : Hid _ := hB
    clear hA hB hz
    rw [if_pos rfl, if_neg Bool.false_ne_true]
    go_enter Tryz.func102, Tryz.ntmps102
    go_wp2_with fail
    refine (zero_any _ (.fin s n e g) _ (((((Q.refl w).cells _ _).cells _ _).cells _ _) |>.num HX.out)).mono ?_
    rintro x w1 ⟨rfl, c1, rfl⟩
    rw [HA.out]
    go_wp2_with fail
    refine (zero_any _ (.fin t k f h) _ ((((((Q.refl w).cells _ _).cells _ _).cells _ _).cells _ _) |>.num HY.out)).mono ?_
    rintro x w1 ⟨rfl, c2, rfl⟩
    rw [HB.out]
    go_wp2_with fail
    refine bodyPost_ret (v := .agg #[.int .i64 1, .bool (s != t), .slice none 0 0, .int .i64 0, .bool false]) (by cases s <;> cases t <;> simp [results, Tryz.results102, go_sem]) rfl ⟨_, rfl, ⟨_, _, rfl⟩, ?_⟩
    exact (((((Q.refl w).cells _ _).cells _ _).cells _ _).cells _ _).cells _ _
  · have HA : Hid _ := hA
    have HB : Hid _ := hB
    clear hA hB hz
    rw [if_neg Bool.false_ne_true]
    go_enter Tryz.func102, Tryz.ntmps102
    go_wp2_with fail
    refine (zero_any _ (.fin s n e g) _ (((((Q.refl w).cells _ _).cells _ _).cells _ _) |>.num HX.out)).mono ?_
    rintro x w1 ⟨rfl, c1, rfl⟩
    rw [HA.out]
    go_wp2_with fail
    refine (zero_any _ (.fin t k f h) _ ((((((Q.refl w).cells _ _).cells _ _).cells _ _).cells _ _) |>.num HY.out)).mono ?_
    rintro x w1 ⟨rfl, c2, rfl⟩
    rw [HB.out]
    go_wp2_with fail
    refine (zero_any _ (.fin t k f h) _ (((((((Q.refl w).cells _ _).cells _ _).cells _ _).cells _ _).cells _ _) |>.num HY.out)).mono ?_
    rintro x w1 ⟨rfl, c3, rfl⟩
    rw [HB.out]
    go_wp2_with fail
    refine (zero_any _ (.fin s n e g) _ ((((((((Q.refl w).cells _ _).cells _ _).cells _ _).cells _ _).cells _ _).cells _ _) |>.num HX.out)).mono ?_
    rintro x w1 ⟨rfl, c4, rfl⟩
    rw [HA.out]
    go_wp2_with fail
    refine bodyPost_ret (v := .agg #[.int .i64 2, .bool (s != t), .slice none 0 0, .int .i64 0, .bool false]) (by cases s <;> cases t <;> simp [results, Tryz.results102, go_sem]) rfl ⟨_, rfl, ⟨_, rfl, nat_nil _⟩, ?_⟩
    exact (((((((Q.refl w).cells _ _).cells _ _).cells _ _).cells _ _).cells _ _).cells _ _).cells _ _
  · have HA : Hid _ := hA
    have HB : Hid _ := hB
    clear hA hB hz
    rw [if_pos rfl, if_pos rfl]
    go_enter Tryz.func102, Tryz.ntmps102
    go_wp2_with fail
    refine (zero_any _ (.fin s n e g) _ (((((Q.refl w).cells _ _).cells _ _).cells _ _) |>.num HX.out)).mono ?_
    rintro x w1 ⟨rfl, c1, rfl⟩
    rw [HA.out]
    go_wp2_with fail
    refine (zero_any _ (.fin t k f h) _ ((((((Q.refl w).cells _ _).cells _ _).cells _ _).cells _ _) |>.num HY.out)).mono ?_
    rintro x w1 ⟨rfl, c2, rfl⟩
    rw [HB.out]
    go_wp2_with fail
    refine bodyPost_ret (v := .agg #[.int .i64 0, .bool false, .slice none 0 0, .int .i64 0, .bool false]) (by simp [results, Tryz.results102, go_sem]) rfl ⟨_, rfl, ⟨_, _, _, rfl⟩, ?_⟩
    exact (((((Q.refl w).cells _ _).cells _ _).cells _ _).cells _ _).cells _ _
end Go.Proofs.YtieojgblamkgoaaGreatDoor
/- What the reference's Add, Scale and Half return of whatever samples: the exact number, rounded. -/
namespace Go.Proofs.YtieojgblamkgoaaGreatDoor
open Go.RowKit

/-- Numbers of middling size. -/
def mid : RNum → Prop
  | ⟨some (.inr (_, n, e, m))⟩ => blen n ≤ 1000 ∧ -1000 ≤ e ∧ e ≤ 1000 ∧ m = false
  | _ => True
theorem mid_small {x : RNum} (h : mid x) : small x := by
  cases x using RNum.rec3 with
  | fin s n e m => exact ⟨by have := h.1; omega, by have := h.2.1; omega, by have := h.2.2.1; omega⟩
  | nan => exact trivial
  | inf s => exact trivial
theorem numOf_cases (b : Nat) : numOf Ieee.single b = .nan ∨ (∃ s, numOf Ieee.single b = .inf s) ∨ ∃ s n e, numOf Ieee.single b = .fin s n e false ∧ n < 16777216 ∧ -149 ≤ e ∧ e ≤ 104 := by
  have hx : b / 8388608 % 256 < 256 := Nat.mod_lt _ (by decide)
  by_cases h1 : b / 8388608 % 256 = 255
  · by_cases h2 : b % 8388608 = 0
    · exact Or.inr (Or.inl ⟨_, numOf_inf h1 h2⟩)
    · exact Or.inl (numOf_nan h1 h2)
  · by_cases h3 : b / 8388608 % 256 = 0
    · exact Or.inr (Or.inr ⟨_, _, _, numOf_small h3, by omega, by omega, by omega⟩)
    · exact Or.inr (Or.inr ⟨_, _, _, numOf_norm h3 h1, by omega, by omega, by omega⟩)
theorem numOf_mid (b : Nat) : mid (numOf Ieee.single b) := by
  rcases numOf_cases b with h | ⟨s, h⟩ | ⟨s, n, e, h, hn, h0, h1⟩
  · rw [h]; exact trivial
  · rw [h]; exact trivial
  · rw [h]
    have : blen n ≤ 24 := blen_le hn
    exact ⟨by omega, by omega, by omega, rfl⟩
theorem blen_shifted {k : Nat} (n d : Nat) (h : blen n + d ≤ k) : blen (n * 2 ^ d) ≤ k := blen_le (shifted_lt n d h)
theorem plusFin_fits {s t : Bool} {x y : Nat} {b : Int} (hx : blen x ≤ 3000) (hy : blen y ≤ 3000) (b0 : -1000 ≤ b) (b1 : b ≤ 1000) : fits (plusFin s t x y b) := by
  have gx := blen_lt x
  have gy := blen_lt y
  obtain ⟨j, hj⟩ : ∃ j, j = 3000 := ⟨_, rfl⟩
  have px : 2 ^ blen x ≤ 2 ^ j := Nat.pow_le_pow_right (by decide) (by omega)
  have py : 2 ^ blen y ≤ 2 ^ j := Nat.pow_le_pow_right (by decide) (by omega)
  have key : ∀ z, z ≤ x + y → blen z ≤ 6000 := fun z hz => by
    have : z < 2 ^ (j + 1) := by rw [Nat.pow_succ]; omega
    have := blen_le this
    omega
  unfold plusFin
  split
  · exact ⟨key _ (by omega), by omega, by omega, fun h => by cases h⟩
  · split
    · exact ⟨key _ (by omega), by omega, by omega, fun h => by cases h⟩
    · split
      · exact ⟨key _ (by omega), by omega, by omega, fun h => by cases h⟩
      · exact ⟨key _ (by omega), by omega, by omega, fun h => by cases h⟩
theorem plusR_fits {x y : RNum} (hx : mid x) (hy : mid y) : fits (plusR x y) := by
  cases x using RNum.rec3 with
  | nan => exact trivial
  | inf s =>
    cases y using RNum.rec3 with
    | nan => exact trivial
    | inf t => show fits (if s = t then .inf s else .nan); split <;> exact trivial
    | fin t k f g => exact trivial
  | fin s n e m =>
    cases y using RNum.rec3 with
    | nan => exact trivial
    | inf t => exact trivial
    | fin t k f g =>
      obtain ⟨n1, e0, e1, _⟩ := hx
      obtain ⟨k1, f0, f1, _⟩ := hy
      refine plusFin_fits ?_ ?_ (by omega) (by omega)
      · exact blen_shifted n _ (by omega)
      · exact blen_shifted k _ (by omega)

/-- Times 2^d. -/
def scaleR (d : Int) : RNum → RNum
  | ⟨some (.inr (s, n, e, m))⟩ => .fin s n (e + d) m
  | x => x
theorem scaleR_fits {x : RNum} {d : Int} (h : mid x) (d0 : -1000 ≤ d) (d1 : d ≤ 1000) : fits (scaleR d x) := by
  cases x using RNum.rec3 with
  | nan => exact trivial
  | inf s => exact trivial
  | fin s n e m =>
    obtain ⟨n1, e0, e1, hm⟩ := h
    exact ⟨by omega, by omega, by omega, fun g => by rw [hm] at g; cases g⟩

end Go.Proofs.YtieojgblamkgoaaGreatDoor
/- Plain facts: the reference's exact sums and products, rounded, are those of the model's arithmetic. -/
namespace Go.Proofs.YtieojgblamkgoaaGreatDoor
open Go.RowKit

/-- A datum as a number of the reference. -/
def datumR : Ieee.Datum → RNum
  | .nan .. => .nan
  | .infinity s => .inf s
  | .number s m p => .fin s m p false
theorem numOf_datum (f : Ieee.Format) (b : Nat) : numOf f b = datumR (f.read b) := by
  unfold numOf datumR; cases f.read b <;> rfl

theorem roundR_fin (s : Bool) (n : Nat) (e : Int) : roundR (.fin s n e false) = Ieee.single.nearest s n e := by
  show Ieee.single.word s (rungOf Ieee.single (2 * n + 0) (e - 1)) = _
  rw [nearest_rung, Nat.add_zero]
  have := rung_scale Ieee.single n 1 (e - 1)
  rw [Nat.pow_one, Nat.mul_comm n 2] at this
  rw [this, show e - 1 + ((1 : Nat) : Int) = e by omega]

theorem plusFin_sum (s t : Bool) (X Y : Nat) (b : Int) :
    roundR (plusFin s t X Y b) = Ieee.single.nearest (if (if s = true then -(X : Int) else X) + (if t = true then -(Y : Int) else Y) = 0 then s && t else decide ((if s = true then -(X : Int) else X) + (if t = true then -(Y : Int) else Y) < 0))
      ((if s = true then -(X : Int) else X) + (if t = true then -(Y : Int) else Y)).natAbs b := by
  unfold plusFin
  by_cases h : s = t
  · subst h
    rw [if_pos rfl, roundR_fin]
    cases s
    · simp only [Bool.false_eq_true, if_false]
      have e1 : ((X : Int) + (Y : Int)).natAbs = X + Y := by omega
      rw [e1]
      by_cases h0 : (X : Int) + (Y : Int) = 0
      · rw [if_pos h0]; rfl
      · rw [if_neg h0, decide_eq_false (by omega)]
    · simp only [if_true]
      have e1 : (-(X : Int) + -(Y : Int)).natAbs = X + Y := by omega
      rw [e1]
      by_cases h0 : -(X : Int) + -(Y : Int) = 0
      · rw [if_pos h0]; rfl
      · rw [if_neg h0, decide_eq_true (by omega)]
  · rw [if_neg h]
    cases s <;> cases t <;> simp only [Bool.false_eq_true, if_false, if_true]
    · exact absurd rfl h
    · by_cases hxy : X = Y
      · rw [if_pos hxy, roundR_fin, if_pos (by omega : (X : Int) + -(Y : Int) = 0)]
        congr 1; omega
      · rw [if_neg hxy]
        by_cases hlt : Y < X
        · rw [if_pos hlt, roundR_fin, if_neg (by omega : ¬ (X : Int) + -(Y : Int) = 0), decide_eq_false (by omega)]
          congr 1; omega
        · rw [if_neg hlt, roundR_fin, if_neg (by omega : ¬ (X : Int) + -(Y : Int) = 0), decide_eq_true (by omega)]
          congr 1; omega
    · by_cases hxy : X = Y
      · rw [if_pos hxy, roundR_fin, if_pos (by omega : -(X : Int) + (Y : Int) = 0)]
        congr 1; omega
      · rw [if_neg hxy]
        by_cases hlt : Y < X
        · rw [if_pos hlt, roundR_fin, if_neg (by omega : ¬ -(X : Int) + (Y : Int) = 0), decide_eq_true (by omega)]
          congr 1; omega
        · rw [if_neg hlt, roundR_fin, if_neg (by omega : ¬ -(X : Int) + (Y : Int) = 0), decide_eq_false (by omega)]
          congr 1; omega
    · exact absurd rfl h

theorem signed_eq (s : Bool) (m k : Nat) : Ieee.signed s m k = if s = true then -((m * 2 ^ k : Nat) : Int) else ((m * 2 ^ k : Nat) : Int) := by
  unfold Ieee.signed; rw [Nat.shiftLeft_eq]

/-- Sums. -/
theorem plus_link (d d' : Ieee.Datum) : roundR (plusR (datumR d) (datumR d')) = toldD (d.sum d') := by
  cases d with
  | nan s t => cases d' <;> rfl
  | infinity s =>
    cases d' with
    | nan t f => rfl
    | infinity t =>
      show roundR (if s = t then .inf s else .nan) = toldD (if s = t then some (.infinity s) else none)
      by_cases h : s = t
      · rw [if_pos h, if_pos h]; show Ieee.single.word s 2139095040 = Ieee.single.word s Ieee.single.infRung; rw [single_inf]
      · rw [if_neg h, if_neg h]; rfl
    | number t n j => show Ieee.single.word s 2139095040 = Ieee.single.word s Ieee.single.infRung; rw [single_inf]
  | number s m i =>
    cases d' with
    | nan t f => rfl
    | infinity t => show Ieee.single.word t 2139095040 = Ieee.single.word t Ieee.single.infRung; rw [single_inf]
    | number t n j =>
      show roundR (plusFin s t (m * 2 ^ (i - min i j).toNat) (n * 2 ^ (j - min i j).toNat) (min i j)) = Ieee.single.nearest _ _ _
      rw [plusFin_sum, signed_eq, signed_eq]
end Go.Proofs.YtieojgblamkgoaaGreatDoor
/- What the reference's Mul, Fma and Sub return of whatever samples: the exact number, rounded. -/
namespace Go.Proofs.YtieojgblamkgoaaGreatDoor
open Go.RowKit

/-- Numbers of a few hundred digits at most. -/
def few : RNum → Prop
  | ⟨some (.inr (_, n, e, m))⟩ => blen n ≤ 500 ∧ -500 ≤ e ∧ e ≤ 500 ∧ m = false
  | _ => True
theorem few_mid {x : RNum} (h : few x) : mid x := by
  cases x using RNum.rec3 with
  | fin s n e m => exact ⟨by have := h.1; omega, by have := h.2.1; omega, by have := h.2.2.1; omega, h.2.2.2⟩
  | nan => exact trivial
  | inf s => exact trivial
theorem numOf_few (b : Nat) : few (numOf Ieee.single b) := by
  rcases numOf_cases b with h | ⟨s, h⟩ | ⟨s, n, e, h, hn, h0, h1⟩
  · rw [h]; exact trivial
  · rw [h]; exact trivial
  · rw [h]
    have : blen n ≤ 24 := blen_le hn
    exact ⟨by omega, by omega, by omega, rfl⟩

theorem timesR_mid {x y : RNum} (fx : few x) (fy : few y) : mid (timesR x y) := by
  cases x using RNum.rec3 with
  | nan => exact trivial
  | inf s =>
    cases y using RNum.rec3 with
    | nan => exact trivial
    | inf t => exact trivial
    | fin t n f g => show mid (if zeroB (.fin t n f g) = true then .nan else .inf (s != t)); split <;> exact trivial
  | fin s n e m =>
    cases y using RNum.rec3 with
    | nan => exact trivial
    | inf t => show mid (if zeroB (.fin s n e m) = true then .nan else .inf (s != t)); split <;> exact trivial
    | fin t k f g =>
      obtain ⟨a1, a2, a3, _⟩ := fx
      obtain ⟨b1, b2, b3, _⟩ := fy
      refine ⟨?_, by omega, by omega, rfl⟩
      have h2 : n * k < 2 ^ blen n * 2 ^ blen k := Nat.mul_lt_mul_of_lt_of_lt (blen_lt n) (blen_lt k)
      rw [← Nat.pow_add] at h2
      have := blen_le h2
      omega
theorem mid_fits {x : RNum} (h : mid x) : fits x := by
  cases x using RNum.rec3 with
  | nan => exact trivial
  | inf s => exact trivial
  | fin s n e m =>
    obtain ⟨a1, a2, a3, hm⟩ := h
    exact ⟨by omega, by omega, by omega, fun g => by rw [hm] at g; cases g⟩

/-- The other sign. -/
def oppR : RNum → RNum
  | ⟨none⟩ => .nan
  | ⟨some (.inl s)⟩ => .inf !s
  | ⟨some (.inr (s, n, e, m))⟩ => .fin (!s) n e m
theorem opp_mid {x : RNum} (h : mid x) : mid (oppR x) := by cases x using RNum.rec3 <;> exact h

theorem opp_num {w : World} {x : RNum} {k : Int} {s : Bool} {nv : Value} {e : Int} {m : Bool} (h : NumAt w (.agg #[.int .i64 k, .bool s, nv, .int .i64 e, .bool m]) x) : NumAt w (.agg #[.int .i64 k, .bool !s, nv, .int .i64 e, .bool m]) (oppR x) := by
  cases x using RNum.rec3 with
  | nan =>
    obtain ⟨b, e', m', h⟩ := h
    simp at h
    obtain ⟨rfl, rfl, rfl, rfl, rfl⟩ := h
    exact ⟨_, _, _, rfl⟩
  | inf t =>
    obtain ⟨e', m', h⟩ := h
    simp at h
    obtain ⟨rfl, rfl, rfl, rfl, rfl⟩ := h
    exact ⟨_, _, rfl⟩
  | fin t n f g =>
    obtain ⟨nv', h, hn⟩ := h
    simp at h
    obtain ⟨rfl, rfl, rfl, rfl, rfl⟩ := h
    exact ⟨_, rfl, hn⟩

/-- Products. -/
theorem times_link (d d' : Ieee.Datum) : roundR (timesR (datumR d) (datumR d')) = toldD (d.product d') := by
  cases d with
  | nan s t => cases d' <;> rfl
  | infinity s =>
    cases d' with
    | nan t f => rfl
    | infinity t =>
      show Ieee.single.word (s != t) 2139095040 = Ieee.single.word (s ^^ t) Ieee.single.infRung
      cases s <;> cases t <;> rw [single_inf] <;> rfl
    | number t n j =>
      show roundR (if (decide (n = 0) && !false) = true then .nan else .inf (s != t)) = toldD (if n = 0 then none else some (.infinity (s ^^ t)))
      by_cases h : n = 0
      · rw [if_pos h, if_pos (by simp [h])]; rfl
      · rw [if_neg h, if_neg (by simp [h])]
        show Ieee.single.word (s != t) 2139095040 = Ieee.single.word (s ^^ t) Ieee.single.infRung
        cases s <;> cases t <;> rw [single_inf] <;> rfl
  | number s m i =>
    cases d' with
    | nan t f => rfl
    | infinity t =>
      show roundR (if (decide (m = 0) && !false) = true then .nan else .inf (s != t)) = toldD (if m = 0 then none else some (.infinity (t ^^ s)))
      by_cases h : m = 0
      · rw [if_pos h, if_pos (by simp [h])]; rfl
      · rw [if_neg h, if_neg (by simp [h])]
        show Ieee.single.word (s != t) 2139095040 = Ieee.single.word (t ^^ s) Ieee.single.infRung
        cases s <;> cases t <;> rw [single_inf] <;> rfl
    | number t n j =>
      show roundR (.fin (s != t) (m * n) (i + j) false) = Ieee.single.nearest (s ^^ t) (m * n) (i + j)
      cases s <;> cases t <;> rw [roundR_fin] <;> rfl
theorem opp_link (d : Ieee.Datum) : oppR (datumR d) = datumR d.opposite := by cases d <;> rfl
end Go.Proofs.YtieojgblamkgoaaGreatDoor
/- What the reference's DivNum and Div return of whatever samples. -/
namespace Go.Proofs.YtieojgblamkgoaaGreatDoor
open Go.RowKit

/-- The quotient, cut behind its digits, and whether something is left. -/
def divR : RNum → RNum → RNum
  | ⟨none⟩, _ => .nan
  | ⟨some (.inl _)⟩, ⟨none⟩ => .nan
  | ⟨some (.inr _)⟩, ⟨none⟩ => .nan
  | ⟨some (.inl _)⟩, ⟨some (.inl _)⟩ => .nan
  | ⟨some (.inl s)⟩, ⟨some (.inr (t, _))⟩ => .inf (s != t)
  | ⟨some (.inr (s, _))⟩, ⟨some (.inl t)⟩ => .fin (s != t) 0 0 false
  | ⟨some (.inr (s, n, e, m))⟩, ⟨some (.inr (t, k, f, g))⟩ =>
    if zeroB (.fin s n e m) = true ∨ zeroB (.fin t k f g) = true then (if zeroB (.fin t k f g) = true then (if zeroB (.fin s n e m) = true then .nan else .inf (s != t)) else .fin (s != t) 0 0 false)
    else .fin (s != t) (n * 2 ^ shV n k / k) (e - f - (shV n k : Int)) (!decide (n * 2 ^ shV n k % k = 0))

theorem divnum_any (va vb : Value) (x y : RNum) (w : World) (hx : NumAt w va x) (hy : NumAt w vb y) (fx : few x) (fy : few y) :
    Calls Tryz.prog 102 #[va, vb] w fun e w' => ∃ v, e = .returned v ∧ NumAt w' v (divR x y) ∧ Q w w' := by
  cases x using RNum.rec3 with
  | nan => exact div_nan1 va vb y w hx hy
  | inf s =>
    cases y using RNum.rec3 with
    | nan => exact div_nan2 va vb _ w hx hy (fun k s' p L C e m h => by
        obtain ⟨e', m', h'⟩ := hx
        rw [h'] at h
        intro hk
        rw [hk] at h
        simp at h)
    | inf t => exact div_infinf va vb s t w hx hy
    | fin t n f g => exact div_inffin va vb s t n f g w hx hy
  | fin s n e m =>
    cases y using RNum.rec3 with
    | nan => exact div_nan2 va vb _ w hx hy (fun k s' p L C e' m' h => by
        obtain ⟨nv, h', hn⟩ := hx
        rw [h'] at h
        intro hk
        rw [hk] at h
        simp at h)
    | inf t => exact div_fininf va vb s t n e m w hx hy
    | fin t k f g =>
      show Calls Tryz.prog 102 #[va, vb] w fun x w' => ∃ v, x = .returned v ∧ NumAt w' v (if zeroB (.fin s n e m) = true ∨ zeroB (.fin t k f g) = true then (if zeroB (.fin t k f g) = true then (if zeroB (.fin s n e m) = true then .nan else .inf (s != t)) else .fin (s != t) 0 0 false) else .fin (s != t) (n * 2 ^ shV n k / k) (e - f - (shV n k : Int)) (!decide (n * 2 ^ shV n k % k = 0))) ∧ Q w w'
      by_cases hz : zeroB (.fin s n e m) = true ∨ zeroB (.fin t k f g) = true
      · rw [if_pos hz]; exact div_nought va vb s t n k e f m g w hx hy hz
      · rw [if_neg hz]
        obtain ⟨a1, a2, a3, rfl⟩ := fx
        obtain ⟨b1, b2, b3, rfl⟩ := fy
        obtain ⟨nv, rfl, hn⟩ := hx
        obtain ⟨kv, rfl, hk⟩ := hy
        have n0 : n ≠ 0 := fun c => hz (Or.inl (by rw [c]; rfl))
        have k0 : k ≠ 0 := fun c => hz (Or.inr (by rw [c]; rfl))
        exact div_fin s t nv kv n k e f w hn hk n0 k0 a1 (by omega) (by omega) b1 (by omega) (by omega)

/-- The quotient has 60 digits and more. -/
theorem quo_big {n k : Nat} (n0 : n ≠ 0) (k0 : k ≠ 0) : 2 ^ 59 ≤ n * 2 ^ shV n k / k := by
  have hA := blen_mul_pow n0 (shV n k)
  have h1 := blen_lt k
  have h2 : 2 ^ (n * 2 ^ shV n k).log2 ≤ n * 2 ^ shV n k := Nat.log2_self_le (Nat.mul_ne_zero n0 (by have := Nat.two_pow_pos (shV n k); omega))
  have h3 : (n * 2 ^ shV n k).log2 + 1 = blen n + shV n k := by
    rw [← hA]; unfold blen
    rw [if_neg (Nat.mul_ne_zero n0 (by have := Nat.two_pow_pos (shV n k); omega))]
  rw [Nat.le_div_iff_mul_le (by omega)]
  have h4 : 2 ^ 59 * k ≤ 2 ^ 59 * 2 ^ blen k := Nat.mul_le_mul_left _ (by omega)
  rw [← Nat.pow_add] at h4
  have h5 : 2 ^ (59 + blen k) ≤ 2 ^ (n * 2 ^ shV n k).log2 := Nat.pow_le_pow_right (by decide) (by unfold shV at h3 ⊢; omega)
  omega
theorem divR_fits {x y : RNum} (fx : few x) (fy : few y) : fits (divR x y) := by
  cases x using RNum.rec3 with
  | nan => exact trivial
  | inf s => cases y using RNum.rec3 <;> exact trivial
  | fin s n e m =>
    cases y using RNum.rec3 with
    | nan => exact trivial
    | inf t => exact ⟨by decide, by decide, by decide, fun h => by cases h⟩
    | fin t k f g =>
      show fits (if zeroB (.fin s n e m) = true ∨ zeroB (.fin t k f g) = true then (if zeroB (.fin t k f g) = true then (if zeroB (.fin s n e m) = true then .nan else .inf (s != t)) else .fin (s != t) 0 0 false) else .fin (s != t) (n * 2 ^ shV n k / k) (e - f - (shV n k : Int)) (!decide (n * 2 ^ shV n k % k = 0)))
      obtain ⟨a1, a2, a3, rfl⟩ := fx
      obtain ⟨b1, b2, b3, rfl⟩ := fy
      by_cases hz : zeroB (.fin s n e false) = true ∨ zeroB (.fin t k f false) = true
      · rw [if_pos hz]
        split
        · split <;> exact trivial
        · exact ⟨by decide, by decide, by decide, fun h => by cases h⟩
      · rw [if_neg hz]
        have n0 : n ≠ 0 := fun c => hz (Or.inl (by rw [c]; rfl))
        have k0 : k ≠ 0 := fun c => hz (Or.inr (by rw [c]; rfl))
        have hq := quo_big n0 k0
        have hsh : shV n k ≤ 560 := by unfold shV; omega
        have hle : n * 2 ^ shV n k / k ≤ n * 2 ^ shV n k := Nat.div_le_self _ _
        have hbl : blen (n * 2 ^ shV n k / k) ≤ blen n + shV n k := blen_le (Nat.lt_of_le_of_lt hle (by rw [← blen_mul_pow n0]; exact blen_lt _))
        have hp : (0 : Nat) < 2 ^ 59 := by decide
        have hne : n * 2 ^ shV n k / k ≠ 0 := by omega
        refine ⟨by omega, by omega, by omega, fun _ => ⟨hne, ?_⟩⟩
        have hl : 59 ≤ (n * 2 ^ shV n k / k).log2 := (Nat.le_log2 hne).2 hq
        unfold lastOf
        rw [single_frac]
        omega

end Go.Proofs.YtieojgblamkgoaaGreatDoor
/- Plain facts: a quotient with its rest told by one bit. -/
namespace Go.Proofs.YtieojgblamkgoaaGreatDoor
open Go.RowKit

/-- A quotient's digits, and one more that tells of a rest. -/
def sqV (m n A : Nat) : Nat := 2 * (m * 2 ^ A / n) + if m * 2 ^ A % n = 0 then 0 else 1
theorem sq_stick {m n B k : Nat} (hn : 0 < n) : stick (sqV m n (B + k)) (k + 1) = sqV m n B := by
  have hk := Nat.two_pow_pos k
  have e0 : m * 2 ^ (B + k) = m * 2 ^ B * 2 ^ k := by rw [Nat.pow_add, Nat.mul_assoc]
  -- the great quotient, cut, is the small one
  have e1 : m * 2 ^ (B + k) / n / 2 ^ k = m * 2 ^ B / n := by
    rw [Nat.div_div_eq_div_mul, e0, Nat.mul_div_mul_right _ _ hk]
  have d1 := Nat.div_add_mod (m * 2 ^ (B + k)) n
  have d2 := Nat.div_add_mod (m * 2 ^ B) n
  have d3 := Nat.div_add_mod (m * 2 ^ (B + k) / n) (2 ^ k)
  have r1 := Nat.mod_lt (m * 2 ^ (B + k)) hn
  have r2 := Nat.mod_lt (m * 2 ^ B) hn
  rw [e1] at d3
  obtain ⟨q, hq⟩ : ∃ q, q = m * 2 ^ B / n := ⟨_, rfl⟩
  obtain ⟨Q', hQ⟩ : ∃ Q', Q' = m * 2 ^ (B + k) / n := ⟨_, rfl⟩
  obtain ⟨r, hr⟩ : ∃ r, r = m * 2 ^ B % n := ⟨_, rfl⟩
  obtain ⟨R, hR⟩ : ∃ R, R = m * 2 ^ (B + k) % n := ⟨_, rfl⟩
  obtain ⟨t, ht⟩ : ∃ t, t = Q' % 2 ^ k := ⟨_, rfl⟩
  unfold stick sqV
  rw [← hQ, ← hR, ← hq, ← hr]
  rw [← hQ, ← hq, ← ht] at d3
  rw [← hQ, ← hR] at d1
  rw [← hq, ← hr] at d2
  have htk : t < 2 ^ k := by rw [ht]; exact Nat.mod_lt _ hk
  -- r * 2^k = n * t + R
  have key : r * 2 ^ k = n * t + R := by
    have a1 : n * Q' + R = (n * q + r) * 2 ^ k := by rw [d1, d2, e0]
    rw [← d3] at a1
    rw [Nat.mul_add, Nat.add_mul] at a1
    have a2 : n * (2 ^ k * q) = n * q * 2 ^ k := by rw [Nat.mul_comm (2 ^ k) q, Nat.mul_assoc]
    omega
  have hzero : r = 0 ↔ t = 0 ∧ R = 0 := by
    constructor
    · intro h
      rw [h, Nat.zero_mul] at key
      have k1 : n * t = 0 := by omega
      rcases Nat.mul_eq_zero.1 k1 with h' | h'
      · omega
      · exact ⟨h', by omega⟩
    · rintro ⟨h1, h2⟩
      rw [h1, h2, Nat.mul_zero] at key
      rcases Nat.mul_eq_zero.1 key with h' | h'
      · exact h'
      · omega
  have ep : 2 ^ (k + 1) = 2 * 2 ^ k := by rw [Nat.pow_succ]; omega
  obtain ⟨b, hb⟩ : ∃ b, b = if R = 0 then 0 else 1 := ⟨_, rfl⟩
  have hb2 : b < 2 := by rw [hb]; split <;> omega
  rw [← hb]
  have f1 : (2 * Q' + b) / 2 ^ (k + 1) = q := by
    rw [ep, ← Nat.div_div_eq_div_mul, show (2 * Q' + b) / 2 = Q' by omega, hQ, e1, hq]
  have f2 : (2 * Q' + b) % 2 ^ (k + 1) = 2 * t + b := by
    have g := Nat.div_add_mod (2 * Q' + b) (2 ^ (k + 1))
    rw [f1, ep] at g
    rw [ep]
    have g2 : 2 * 2 ^ k * q = 2 * (2 ^ k * q) := Nat.mul_assoc _ _ _
    omega
  rw [f1, f2]
  have hbR : b = 0 ↔ R = 0 := by rw [hb]; split <;> omega
  by_cases h : r = 0
  · obtain ⟨h1, h2⟩ := hzero.1 h
    rw [if_pos h, if_pos (by have := hbR.2 h2; omega)]
  · rw [if_neg h, if_neg]
    intro h'
    exact h (hzero.2 ⟨by omega, hbR.1 (by omega)⟩)
theorem sq_link (f : Ieee.Format) {m n A B : Nat} (x : Int) (hn : 0 < n) (hA : B ≤ A) (hq : 2 ^ (f.fractionBits + 1) ≤ m * 2 ^ B / n) :
    rungOf f (sqV m n A) (x - A - 1) = rungOf f (sqV m n B) (x - B - 1) := by
  obtain ⟨k, rfl⟩ : ∃ k, A = B + k := ⟨A - B, by omega⟩
  have e1 : m * 2 ^ (B + k) / n / 2 ^ k = m * 2 ^ B / n := by
    rw [Nat.div_div_eq_div_mul, Nat.pow_add, ← Nat.mul_assoc, Nat.mul_div_mul_right _ _ (Nat.two_pow_pos k)]
  have h1 : 2 ^ (f.fractionBits + 1 + k) ≤ m * 2 ^ (B + k) / n := by
    rw [Nat.pow_add]
    rw [← e1] at hq
    exact (Nat.le_div_iff_mul_le (Nat.two_pow_pos k)).1 hq
  have h2 : 2 ^ (f.fractionBits + 2 + k) ≤ sqV m n (B + k) := by
    unfold sqV
    rw [show f.fractionBits + 2 + k = f.fractionBits + 1 + k + 1 by omega, Nat.pow_succ]
    omega
  have hM : sqV m n (B + k) ≠ 0 := by have := Nat.two_pow_pos (f.fractionBits + 2 + k); omega
  have hlog : f.fractionBits + 2 + k ≤ (sqV m n (B + k)).log2 := (Nat.le_log2 hM).2 h2
  have := rung_stick f (M := sqV m n (B + k)) (k := k + 1) (x - (B + k : Nat) - 1) (by omega) hM (by unfold lastOf; omega)
  rw [sq_stick hn] at this
  rw [← this]
  congr 1; omega
theorem quo_digits {m n : Nat} (hm : m ≠ 0) (hn : n ≠ 0) {d : Nat} (h0 : 0 < d) : 2 ^ (d - 1) ≤ m * 2 ^ (d + n.log2 - m.log2) / n := by
  rw [Nat.le_div_iff_mul_le (by omega)]
  have h1 := Nat.log2_self_le hm
  have h2 : n < 2 ^ (n.log2 + 1) := Nat.lt_log2_self
  have a1 : 2 ^ (d - 1) * n < 2 ^ (d - 1) * 2 ^ (n.log2 + 1) := Nat.mul_lt_mul_of_pos_left h2 (Nat.two_pow_pos _)
  rw [← Nat.pow_add, show d - 1 + (n.log2 + 1) = d + n.log2 by omega] at a1
  have a2 : 2 ^ m.log2 * 2 ^ (d + n.log2 - m.log2) ≤ m * 2 ^ (d + n.log2 - m.log2) := Nat.mul_le_mul_right _ h1
  rw [← Nat.pow_add] at a2
  have a3 : 2 ^ (d + n.log2) ≤ 2 ^ (m.log2 + (d + n.log2 - m.log2)) := Nat.pow_le_pow_right (by decide) (by omega)
  omega
theorem sq_not (m n A : Nat) : 2 * (m * 2 ^ A / n) + (!decide (m * 2 ^ A % n = 0)).toNat = sqV m n A := by
  unfold sqV
  by_cases h : m * 2 ^ A % n = 0
  · rw [decide_eq_true h, if_pos h]; rfl
  · rw [decide_eq_false h, if_neg h]; rfl
theorem sq_model (m n A : Nat) : 2 * ((m <<< A) / n) + ((m <<< A) % n != 0).toNat = sqV m n A := by
  unfold sqV
  rw [Nat.shiftLeft_eq]
  by_cases h : m * 2 ^ A % n = 0
  · rw [if_pos h, h]; rfl
  · rw [if_neg h, bne_iff_ne.2 h]; rfl
end Go.Proofs.YtieojgblamkgoaaGreatDoor
/- Plain facts: a quotient with its rest told by one bit, rounded: how many digits it has does not matter; the reference's quotients are the model's. -/
namespace Go.Proofs.YtieojgblamkgoaaGreatDoor
open Go.RowKit

theorem zeroB_fin (s : Bool) (n : Nat) (e : Int) : zeroB (.fin s n e false) = decide (n = 0) := by
  unfold zeroB; cases n <;> rfl
theorem bne_xor (s t : Bool) : (s != t) = (s ^^ t) := by cases s <;> cases t <;> rfl
/-- Quotients. -/
theorem div_link (d d' : Ieee.Datum) : roundR (divR (datumR d) (datumR d')) = toldD (d.quotient 25 d') := by
  cases d with
  | nan s t => cases d' <;> rfl
  | infinity s =>
    cases d' with
    | nan t f => rfl
    | infinity t => rfl
    | number t n j =>
      show Ieee.single.word (s != t) 2139095040 = Ieee.single.word (s ^^ t) Ieee.single.infRung
      rw [single_inf, bne_xor]
  | number s m i =>
    cases d' with
    | nan t f => rfl
    | infinity t =>
      show roundR (.fin (s != t) 0 0 false) = Ieee.single.nearest (s ^^ t) 0 0
      rw [roundR_fin, bne_xor]
    | number t n j =>
      show roundR (divR (.fin s m i false) (.fin t n j false)) = _
      unfold divR
      dsimp only
      rw [zeroB_fin, zeroB_fin]
      simp only [decide_eq_true_eq]
      by_cases hn : n = 0
      · rw [if_pos (Or.inr hn), if_pos hn]
        by_cases hm : m = 0
        · rw [if_pos hm, show (Ieee.Datum.number s m i).quotient 25 (.number t n j) = none from by simp [Ieee.Datum.quotient, hn, hm]]; rfl
        · rw [if_neg hm, show (Ieee.Datum.number s m i).quotient 25 (.number t n j) = some (.infinity (s ^^ t)) from by simp [Ieee.Datum.quotient, hn, hm]]
          show Ieee.single.word (s != t) 2139095040 = Ieee.single.word (s ^^ t) Ieee.single.infRung
          rw [single_inf, bne_xor]
      · have em : (Ieee.Datum.number s m i).quotient 25 (.number t n j) = some (.number (s ^^ t) (sqV m n (25 + n.log2 - m.log2)) (i - j - ((25 + n.log2 - m.log2 : Nat) : Int) - 1)) := by
          rw [← sq_model]
          simp [Ieee.Datum.quotient, hn]
        rw [em]
        show _ = Ieee.single.nearest _ _ _
        rw [nearest_rung]
        by_cases hm : m = 0
        · rw [if_pos (Or.inl hm), if_neg hn, roundR_fin, nearest_rung, bne_xor]
          have z : sqV m n (25 + n.log2 - m.log2) = 0 := by unfold sqV; rw [hm, Nat.zero_mul, Nat.zero_div, Nat.zero_mod, if_pos rfl]
          rw [z]; unfold rungOf; rw [if_pos rfl, if_pos rfl]
        · rw [if_neg (by simp [hn, hm]), bne_xor]
          show Ieee.single.word _ (rungOf Ieee.single (2 * (m * 2 ^ shV m n / n) + (!decide (m * 2 ^ shV m n % n = 0)).toNat) (i - j - (shV m n : Int) - 1)) = _
          rw [sq_not]
          congr 1
          refine sq_link Ieee.single (i - j) (by omega) ?_ ?_
          · unfold shV blen
            rw [if_neg hn, if_neg hm]; omega
          · exact quo_digits hm hn (d := 25) (by omega)
end Go.Proofs.YtieojgblamkgoaaGreatDoor
/- What the reference's Of returns at binary64, and F64. -/
namespace Go.Proofs.YtieojgblamkgoaaGreatDoor
open Go.RowKit

theorem numOf_nan64 {b : Nat} (h1 : b / 4503599627370496 % 2048 = 2047) (h2 : b % 4503599627370496 ≠ 0) : numOf Ieee.double b = .nan := by
  unfold numOf Ieee.Format.read
  simp only [double_sign, double_binade, double_inf, double_least]
  rw [if_neg (by omega), if_neg (by omega), if_neg (by omega)]
theorem numOf_inf64 {b : Nat} (h1 : b / 4503599627370496 % 2048 = 2047) (h2 : b % 4503599627370496 = 0) : numOf Ieee.double b = .inf (b / 9223372036854775808 % 2 == 1) := by
  unfold numOf Ieee.Format.read
  simp only [double_sign, double_binade, double_inf, double_least]
  rw [if_neg (by omega), if_neg (by omega), if_pos (by omega)]
theorem numOf_small64 {b : Nat} (h1 : b / 4503599627370496 % 2048 = 0) : numOf Ieee.double b = .fin (b / 9223372036854775808 % 2 == 1) (b % 4503599627370496) (-1074) false := by
  unfold numOf Ieee.Format.read
  simp only [double_sign, double_binade, double_inf, double_least]
  rw [if_pos (by omega)]
  have : b % 9223372036854775808 = b % 4503599627370496 := by omega
  rw [this]
theorem numOf_norm64 {b : Nat} (h1 : b / 4503599627370496 % 2048 ≠ 0) (h2 : b / 4503599627370496 % 2048 ≠ 2047) :
    numOf Ieee.double b = .fin (b / 9223372036854775808 % 2 == 1) (b % 4503599627370496 + 4503599627370496) (((b / 4503599627370496 % 2048 : Nat) : Int) - 1075) false := by
  unfold numOf Ieee.Format.read
  simp only [double_sign, double_binade, double_inf, double_least]
  rw [if_neg (by omega), if_pos (by omega)]
  have e1 : 4503599627370496 + b % 9223372036854775808 % 4503599627370496 = b % 4503599627370496 + 4503599627370496 := by omega
  have e2 : (-1074 : Int) + ((b % 9223372036854775808 / 4503599627370496 - 1 : Nat) : Int) = ((b / 4503599627370496 % 2048 : Nat) : Int) - 1075 := by omega
  rw [e1, e2]

/-- The bits of a binary64 word among 64. -/
theorem of_bits64 {b : Nat} (hb : b < 18446744073709551616) :
    bits .and .u64 ((b : Int) / 9223372036854775808) 1 = ((b / 9223372036854775808 % 2 : Nat) : Int) ∧
    bits .and .u64 ((b : Int) / 4503599627370496) 2047 = ((b / 4503599627370496 % 2048 : Nat) : Int) ∧
    bits .and .u64 (b : Int) 4503599627370495 = ((b % 4503599627370496 : Nat) : Int) ∧
    bits .or .u64 ((b % 4503599627370496 : Nat) : Int) 4503599627370496 = ((b % 4503599627370496 + 4503599627370496 : Nat) : Int) := by
  refine ⟨?_, ?_, ?_, ?_⟩
  · have := u64_and1 (x := b / 9223372036854775808) (by omega)
    exact this
  · have : bits .and .u64 ((b : Int) / 4503599627370496) 2047 = (b : Int) / 4503599627370496 % 2048 := by go_bits2
    rw [this]; omega
  · have : bits .and .u64 (b : Int) 4503599627370495 = (b : Int) % 4503599627370496 := by go_bits2
    rw [this]; omega
  · rw [show (4503599627370496 : Int) = ((4503599627370496 : Nat) : Int) from rfl, u64_or_nat _ _ (by omega) (by decide), Nat.or_comm,
      show (4503599627370496 : Nat) = 2 ^ 52 * 1 from rfl, ← Nat.two_pow_add_eq_or_of_lt (i := 52) (by omega) 1]
    omega

set_option maxHeartbeats 4000000 in
theorem of64_any (b : Nat) (w : World) (hb : b < 18446744073709551616) :
    Calls Tryz.prog 111 #[.agg #[.int .i64 52, .int .i64 11], .int .u64 b] w fun e w' => ∃ v, e = .returned v ∧ NumAt w' v (numOf Ieee.double b) ∧ Q w w' := by
  obtain ⟨e1, e2, e3, e4⟩ := of_bits64 hb
  obtain ⟨sg, hsg⟩ : ∃ sg : Nat, sg = b / 9223372036854775808 % 2 := ⟨_, rfl⟩
  obtain ⟨ex, hex⟩ : ∃ ex : Nat, ex = b / 4503599627370496 % 2048 := ⟨_, rfl⟩
  obtain ⟨fr, hfr⟩ : ∃ fr : Nat, fr = b % 4503599627370496 := ⟨_, rfl⟩
  rw [← hsg] at e1
  rw [← hex] at e2
  rw [← hfr] at e3 e4
  have xb : ex ≤ 2047 := by omega
  have fb : fr < 4503599627370496 := by omega
  have esg : ((sg : Int) == 1) = (b / 9223372036854775808 % 2 == 1) := by
    rw [← hsg]
    rcases (by omega : sg = 0 ∨ sg = 1) with e | e <;> rw [e] <;> rfl
  have HSG : Hid _ := esg
  have hcase : (ex = 2047 ∧ fr ≠ 0 ∧ Hid (numOf Ieee.double b = .nan)) ∨ (ex = 2047 ∧ fr = 0 ∧ Hid (numOf Ieee.double b = .inf (b / 9223372036854775808 % 2 == 1))) ∨
      (ex = 0 ∧ Hid (numOf Ieee.double b = .fin (b / 9223372036854775808 % 2 == 1) fr (-1074) false)) ∨ (ex ≠ 0 ∧ ex ≠ 2047 ∧ Hid (numOf Ieee.double b = .fin (b / 9223372036854775808 % 2 == 1) (fr + 4503599627370496) ((ex : Int) - 1075) false)) := by
    by_cases h1 : ex = 2047
    · by_cases h2 : fr = 0
      · exact Or.inr (Or.inl ⟨h1, h2, numOf_inf64 (by omega) (by omega)⟩)
      · exact Or.inl ⟨h1, h2, numOf_nan64 (by omega) (by omega)⟩
    · by_cases h3 : ex = 0
      · exact Or.inr (Or.inr (Or.inl ⟨h3, by rw [hfr]; exact numOf_small64 (by omega)⟩))
      · exact Or.inr (Or.inr (Or.inr ⟨h3, h1, by rw [hfr, hex]; exact numOf_norm64 (by omega) (by omega)⟩))
  clear hsg hex hfr esg
  have w1 : IntKind.u64.wrap 2047 = 2047 := by decide
  have w2 : IntKind.u64.wrap 4503599627370496 = 4503599627370496 := by decide
  have w3 : IntKind.u64.wrap 4503599627370495 = 4503599627370495 := by decide
  have w4 : IntKind.i64.wrap (-1074) = -1074 := by decide
  rcases hcase with ⟨rfl, h2, HR⟩ | ⟨rfl, rfl, HR⟩ | ⟨rfl, HR⟩ | ⟨h1, h2, HR⟩
  · have h2b : ((fr : Int) != 0) = true := by simp; omega
    go_enter Tryz.func111, Tryz.ntmps111
    go_wp2_with fail
    go_region_held3 (fun w' => w'.cell? ⟨w.heap.size, 0, none⟩ = some (.int .i64 52) ∧ w'.cell? ⟨w.heap.size, 1, none⟩ = some (.int .i64 11)) (first | (simp [go_sem]; done) | go_keep) (first | (go_at_call 116; refine (top_any 52 11 2047 (by decide) _).mono ?_; rintro e w1 ⟨rfl, rfl⟩))
    go_wp2_with fail
    refine (top_any 52 11 2047 (by decide) _).mono ?_
    rintro e v1 ⟨rfl, rfl⟩
    go_wp2_with fail
    refine bodyPost_ret (v := .agg #[.int .i64 0, .bool false, .slice none 0 0, .int .i64 0, .bool false]) (by simp [results, Tryz.results111, go_sem]) rfl ⟨_, rfl, ?_, ?_⟩
    · rw [HR.out]; exact ⟨_, _, _, rfl⟩
    · exact (((((Q.refl w).cells _ _).cells _ _).cells _ _).cells _ _).drew
  · go_enter Tryz.func111, Tryz.ntmps111
    go_wp2_with fail
    go_region_held3 (fun w' => w'.cell? ⟨w.heap.size, 0, none⟩ = some (.int .i64 52) ∧ w'.cell? ⟨w.heap.size, 1, none⟩ = some (.int .i64 11)) (first | (simp [go_sem]; done) | go_keep) (first | (go_at_call 116; refine (top_any 52 11 2047 (by decide) _).mono ?_; rintro e w1 ⟨rfl, rfl⟩))
    go_wp2_with fail
    refine (top_any 52 11 2047 (by decide) _).mono ?_
    rintro e v1 ⟨rfl, rfl⟩
    go_wp2_with fail
    refine bodyPost_ret (v := .agg #[.int .i64 1, .bool ((sg : Int) == 1), .slice none 0 0, .int .i64 0, .bool false]) (by simp [results, Tryz.results111, go_sem]) rfl ⟨_, rfl, ?_, ?_⟩
    · rw [HR.out, HSG.out]; exact ⟨_, _, rfl⟩
    · exact (((((Q.refl w).cells _ _).cells _ _).cells _ _).cells _ _).drew
  · go_enter Tryz.func111, Tryz.ntmps111
    go_wp2_with fail
    go_region_held3 (fun w' => w'.cell? ⟨w.heap.size, 0, none⟩ = some (.int .i64 52) ∧ w'.cell? ⟨w.heap.size, 1, none⟩ = some (.int .i64 11)) (first | (simp [go_sem]; done) | go_keep) (first | (go_at_call 116; refine (top_any 52 11 2047 (by decide) _).mono ?_; rintro e w1 ⟨rfl, rfl⟩))
    go_wp2_with fail
    refine (top_any 52 11 2047 (by decide) _).mono ?_
    rintro e v1 ⟨rfl, rfl⟩
    go_wp2_with fail
    go_region_held3 (fun w' => w'.cell? ⟨w.heap.size, 0, none⟩ = some (.int .i64 52) ∧ w'.cell? ⟨w.heap.size, 1, none⟩ = some (.int .i64 11)) (first | (simp [go_sem]; done) | go_keep) (first | (go_at_call 99; refine (natof_any fr _ (by omega)).mono ?_; rintro e w1 ⟨C, rfl, rfl⟩) | (go_at_call 117; refine (bias_any 52 11 1075 (by decide) _).mono ?_; rintro e w1 ⟨rfl, rfl⟩))
    all_goals
      go_wp2
      refine bodyPost_ret (v := .agg #[.int .i64 2, .bool ((sg : Int) == 1), .slice (some ⟨w.heap.size + 1 + 1 + 1 + 1, 0, none⟩) (len64 fr) C, .int .i64 (-1074), .bool false]) (by simp [results, Tryz.results111, go_sem]) rfl ⟨_, rfl, ?_, ?_⟩
      · rw [HR.out, HSG.out]
        exact ⟨_, rfl, natAt_two (by omega) (by simp [go_sem]) (by simp [go_sem])⟩
      · exact (((((((Q.refl w).cells _ _).cells _ _).cells _ _).cells _ _).cells _ _).cells _ _).drew.drew.drew
  · have h1b : ((ex : Int) == 2047) = false := by simp; omega
    have h2b : ((ex : Int) == 0) = false := by simp; omega
    obtain ⟨M, hM⟩ : ∃ M, M = fr + 4503599627370496 := ⟨_, rfl⟩
    rw [← hM] at e4
    have hMb : M < 18446744073709551616 := by omega
    have w5 : IntKind.i64.wrap ((ex : Int) - 1075) = (ex : Int) - 1075 := by rw [IntKind.wrap_i64]; omega
    have w6 : IntKind.i64.wrap (ex : Int) = (ex : Int) := by rw [IntKind.wrap_i64]; omega
    have HM : Hid _ := hM
    clear hM
    go_enter Tryz.func111, Tryz.ntmps111
    go_wp2_with fail
    go_region_held3 (fun w' => w'.cell? ⟨w.heap.size, 0, none⟩ = some (.int .i64 52) ∧ w'.cell? ⟨w.heap.size, 1, none⟩ = some (.int .i64 11)) (first | (simp [go_sem]; done) | go_keep) (first | (go_at_call 116; refine (top_any 52 11 2047 (by decide) _).mono ?_; rintro e w1 ⟨rfl, rfl⟩))
    go_wp2_with fail
    refine (top_any 52 11 2047 (by decide) _).mono ?_
    rintro e v1 ⟨rfl, rfl⟩
    go_wp2_with fail
    go_region_held3 (fun w' => w'.cell? ⟨w.heap.size, 0, none⟩ = some (.int .i64 52) ∧ w'.cell? ⟨w.heap.size, 1, none⟩ = some (.int .i64 11)) (first | (simp [go_sem]; done) | go_keep) (first | (go_at_call 99; refine (natof_any M _ hMb).mono ?_; rintro e w1 ⟨C, rfl, rfl⟩) | (go_at_call 117; refine (bias_any 52 11 1075 (by decide) _).mono ?_; rintro e w1 ⟨rfl, rfl⟩))
    all_goals
      go_wp2
      refine bodyPost_ret (v := .agg #[.int .i64 2, .bool ((sg : Int) == 1), .slice (some ⟨w.heap.size + 1 + 1 + 1 + 1, 0, none⟩) (len64 M) C, .int .i64 ((ex : Int) - 1075), .bool false]) (by simp [results, Tryz.results111, go_sem]) rfl ⟨_, rfl, ?_, ?_⟩
      · rw [HR.out, HSG.out, ← HM.out]
        exact ⟨_, rfl, natAt_two hMb (by simp [go_sem]) (by simp [go_sem])⟩
      · exact (((((((Q.refl w).cells _ _).cells _ _).cells _ _).cells _ _).cells _ _).cells _ _).drew.drew.drew
end Go.Proofs.YtieojgblamkgoaaGreatDoor
