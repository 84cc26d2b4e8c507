/- Sums in binary64, one behind the other: what the program tells. -/
import Derived.Test.YtnjagokojdpgpabDoorG8c452587
import Derived.Test.YtnjagokojdpgpabDoorGe0ff3cfc
import Derived.Test.YtnjagokojdpgpabDoorG3afcdc60
import Derived.Test.YtnjagokojdpgpabDoorGf41a8877
namespace Go.Proofs.YtnjagokojdpgpabDoor
open Go.RowKit
set_option linter.unusedVariables false
set_option linter.unusedSimpArgs false

/-- What is told of a datum in binary64. -/
def told64 : Option Ieee.Datum → Nat
  | none => 9221120237041090560
  | some (.nan ..) => 9221120237041090560
  | some d => Ieee.double.write d
/-- A word of binary64, of NaNs one. -/
def canW (W : Nat) : Nat := if nan64 W = true then 9221120237041090560 else W
def add64V (a b : Nat) : Nat := told64 ((Ieee.double.read a).sum (Ieee.double.read b))
theorem sum64_nan {d : Ieee.Datum} (h : d.isNaN = true) (d' : Ieee.Datum) : told64 (d.sum d') = 9221120237041090560 := by
  obtain ⟨s, t, rfl⟩ := isNaN_cases h
  cases d' <;> rfl
theorem made64 : nan64 9221120237041090560 = true := by decide
theorem can_sum (W X : Nat) : add64V (canW W) X = add64V W X := by
  unfold canW
  cases h : nan64 W
  · rfl
  · rw [if_pos rfl]
    unfold add64V
    rw [sum64_nan (read64_nan h), sum64_nan (read64_nan made64)]
theorem told64_some {d : Ieee.Datum} (h : d.isNaN = false) : told64 (some d) = Ieee.double.write d := by
  cases d with
  | nan s t => cases h
  | infinity s => rfl
  | number s m p => rfl
theorem can_some {d : Ieee.Datum} (h : d.isNaN = false) : canW (Ieee.double.write d) = told64 (some d) := by
  unfold canW
  rw [nan64_write h, if_neg (by decide), told64_some h]
theorem can_none (x y : Nat) (w : World) : canW (nanw .f64 x y w) = 9221120237041090560 := by
  unfold canW
  rw [(nanw64 x y w).1, if_pos rfl]
set_option maxHeartbeats 400000 in
theorem swide_any (a : Nat) (ha : a < 4294967296) (w : World) : Calls Tryd.prog 62 #[.int .u32 (a : Int)] w fun e w' => e = .returned (.float .f64 (wideW a)) ∧ Q w w' := by
  have l1 := f64from
  go_enter Tryd.func62, Tryd.ntmps62
  go_wp2_with fail
  refine (cwide_any a ha _).mono ?_
  rintro e w1 ⟨rfl, q1⟩
  go_wp2_with fail
  go_ret
  exact ⟨by simp, q1⟩
set_option maxHeartbeats 400000 in
theorem widebits_any (W : Nat) (hW : W < 18446744073709551616) (w : World) : Calls Tryd.prog 53 #[.float .f64 W] w fun e w' => e = .returned (.int .u64 (canW W : Nat)) ∧ w' = w := by
  have l1 := f64bits
  have k := fun w => isnan64_any W w
  unfold canW
  cases h : nan64 W
  · rw [h] at k
    clear h
    go_enter Tryd.func53, Tryd.ntmps53
    go_wp2_with fail
    refine (k _).mono ?_
    rintro e w1 ⟨rfl, rfl⟩
    go_wp2_with fail
    go_ret
    exact ⟨rfl, rfl⟩
  · rw [h] at k
    clear h
    go_enter Tryd.func53, Tryd.ntmps53
    go_wp2_with fail
    refine (k _).mono ?_
    rintro e w1 ⟨rfl, rfl⟩
    go_wp2_with fail
    go_ret
    exact ⟨rfl, rfl⟩
set_option maxHeartbeats 400000 in
theorem copysign_any (w : World) : Calls Tryd.prog 61 #[.float .f64 0, .float .f64 13830554455654793216] w fun e w' => e = .returned (.float .f64 9223372036854775808) ∧ w' = w := by
  have l1 : ∀ w, (callFunc 71 #[.float .f64 0]).run Tryd.prog w = .ok (.value (.int .u64 0)) w := fun w => f64bits 0 w
  have l2 : ∀ w, (callFunc 71 #[.float .f64 13830554455654793216]).run Tryd.prog w = .ok (.value (.int .u64 13830554455654793216)) w := fun w => f64bits 13830554455654793216 w
  have l3 : ∀ w, (callFunc 72 #[.int .u64 9223372036854775808]).run Tryd.prog w = .ok (.value (.float .f64 9223372036854775808)) w := fun w => f64from 9223372036854775808 w
  have e1 : bits .andNot .u64 0 9223372036854775808 = 0 := by decide +kernel
  have e2 : bits .and .u64 13830554455654793216 9223372036854775808 = 9223372036854775808 := by decide +kernel
  have e3 : bits .or .u64 0 9223372036854775808 = 9223372036854775808 := by decide +kernel
  go_enter Tryd.func61, Tryd.ntmps61
  go_wp2_with fail
  go_ret
  exact ⟨rfl, rfl⟩
def left64V (l : List Nat) : Nat := if l = [] then 0 else l.foldl (fun z s => add64V z (wideW s)) 9223372036854775808
set_option maxHeartbeats 2000000 in
theorem left64_any (v : Value) (S : List Nat) (w : World) (h : USl w v S) (hn : S.length ≤ 35184372087808) (hb : ∀ i, S.getD i 0 < 4294967296) : Calls Tryd.prog 34 #[v] w fun e w' => e = .returned (.int .u64 (left64V S : Nat)) ∧ Q w w' := by
  obtain ⟨ad, cap, rfl⟩ := h.form
  by_cases h0 : S.length = 0
  · have hS : S = [] := List.eq_nil_of_length_eq_zero h0
    rw [h0]
    have e : left64V S = 0 := by rw [hS]; rfl
    rw [e]
    clear e hS h hb
    go_enter Tryd.func34, Tryd.ntmps34
    go_wp2_with fail
    go_ret
    exact ⟨rfl, Q.refl _⟩
  · obtain ⟨g, o, cap', he, hcap, hI⟩ := h.some (by omega)
    injection he with he1 he2 he3
    subst he1 he3
    clear he2
    have HI : Hid (UIs w g o S) := hI
    have hne : ((S.length : Int) == 0) = false := by rw [beq_eq_false_iff_ne]; omega
    have e : left64V S = S.foldl (fun z s => add64V z (wideW s)) 9223372036854775808 := by unfold left64V; rw [if_neg (fun e => h0 (by rw [e]; rfl))]
    rw [e]
    have HN : Hid (¬ S.length = 0) := h0
    have HB : Hid (∀ i, S.getD i 0 < 4294967296) := hb
    clear e h hI h0 hb
    go_enter Tryd.func34, Tryd.ntmps34
    go_wp2_with fail
    refine (copysign_any _).mono ?_
    rintro e w0 ⟨rfl, rfl⟩
    go_wp2_with fail
    go_loopg [3, 12] (S.length) (fun gh s3 s12 wr => ∃ i W : Nat, s3 = .float .f64 W ∧ Hid (canW W = (S.take i).foldl (fun z s => add64V z (wideW s)) 9223372036854775808) ∧ W < 18446744073709551616 ∧ s12 = .int .i64 (i : Int) ∧ i ≤ S.length ∧ gh = S.length - i ∧ Q w0 wr)
    case atStart => exact ⟨0, 9223372036854775808, rfl, (show canW 9223372036854775808 = 9223372036854775808 by decide +kernel), by decide, rfl, by omega, rfl, Q.refl _⟩
    case round =>
      obtain ⟨i, W, rfl, HW, hW, rfl, hi, rfl, qr⟩ := hrel
      by_cases hlt : i < S.length
      · have hc := qr.cell (HI.out i hlt)
        have HF : Hid ((S.take (i + 1)).foldl (fun z s => add64V z (wideW s)) 9223372036854775808 = add64V ((S.take i).foldl (fun z s => add64V z (wideW s)) 9223372036854775808) (wideW (S.getD i 0))) := take_succ_foldl _ _ _ _ hlt
        have HQ : Hid (Q w0 wr) := qr
        have hx := HB.out i
        generalize S.getD i 0 = x at hc HF hx
        have HC : Hid (∀ W', canW W' = add64V W (wideW x) → canW W' = (S.take (i + 1)).foldl (fun z s => add64V z (wideW s)) 9223372036854775808) := fun W' h => by rw [HF.out, ← HW.out, can_sum]; exact h
        clear qr HF HW
        cases hd : (Ieee.double.read W).sum (Ieee.double.read (wideW x)) with
        | none =>
          have hf : floatBits .add .f64 W (wideW x) = none := by
            show ((Ieee.double.read W).sum (Ieee.double.read (wideW x))).map Ieee.double.write = none
            rw [hd]; rfl
          have l1 := fun w => run_arith_none .add (by simp) 79 .f64 W (wideW x) hf Tryd.prog w
          have HE : Hid (add64V W (wideW x) = 9221120237041090560) := by show add64V W (wideW x) = _; unfold add64V; rw [hd]; rfl
          clear hd hf
          go_wp2_with fail
          refine (swide_any x hx _).mono ?_
          rintro e w2 ⟨rfl, q2⟩
          go_wp2_with fail
          go_roundg (S.length - (i + 1))
          case measure => go_light; omega
          case rel =>
            go_light
            exact ⟨i + 1, _, rfl, HC.out _ (by rw [HE.out]; exact can_none _ _ _), (nanw64 _ _ _).2, by simp, by omega, rfl, (HQ.out.trans q2).drew⟩
        | some d =>
          have hf : floatBits .add .f64 W (wideW x) = some (Ieee.double.write d) := by
            show ((Ieee.double.read W).sum (Ieee.double.read (wideW x))).map Ieee.double.write = _
            rw [hd]; rfl
          have l1 := fun w => run_float_arith (P := Tryd.prog) w .add 79 .f64 W (wideW x) _ hf
          have HE : Hid (add64V W (wideW x) = told64 (some d)) := by show add64V W (wideW x) = _; unfold add64V; rw [hd]
          have HD : Hid (d.isNaN = false) := sum_num hd
          clear hd hf
          go_wp2_with fail
          refine (swide_any x hx _).mono ?_
          rintro e w2 ⟨rfl, q2⟩
          go_wp2_with fail
          go_roundg (S.length - (i + 1))
          case measure => go_light; omega
          case rel =>
            go_light
            exact ⟨i + 1, _, rfl, HC.out _ (by rw [HE.out]; exact can_some HD.out), write64_lt d, by simp, by omega, rfl, HQ.out.trans q2⟩
      · obtain rfl : i = S.length := by omega
        have HQ : Hid (Q w0 wr) := qr
        have HW' : Hid (canW W = S.foldl (fun z s => add64V z (wideW s)) 9223372036854775808) := by have h := HW.out; rw [List.take_length] at h; exact h
        clear qr HW
        go_wp2_with fail
        refine (widebits_any W hW _).mono ?_
        rintro e w3 ⟨rfl, rfl⟩
        rw [HW'.out]
        go_wp2_with fail
        go_ret
        exact ⟨rfl, HQ.out⟩
end Go.Proofs.YtnjagokojdpgpabDoor
/- An exact sum divided, as a sample. -/
namespace Go.Proofs.YtnjagokojdpgpabDoor
open Go.RowKit
set_option linter.unusedVariables false
set_option linter.unusedSimpArgs false

theorem odd_wd (s : Bool) {V d : Nat} (hV : 0 < V) (hd : 0 < d) (hb : blen V ≤ 320) : ∃ (m : Nat) (p : Int) (L : Nat), oddW s V d = wd s m p ∧ m = topV V d * 2 ^ L ∧ p + (L : Int) = ((blen (V / d) - 53 : Nat) : Int) - 151 ∧ 4503599627370496 ≤ m ∧ m < 9007199254740992 ∧ -1074 ≤ p ∧ p ≤ 971 := by
  have h1 : topV V d < 2 ^ 53 := top_lt rfl
  have h0 : 0 < topV V d := top_pos hV hd rfl
  have hbl : blen (V / d) ≤ 320 := by
    refine Nat.le_trans (blen_le (k := blen V) ?_) hb
    exact Nat.lt_of_le_of_lt (Nat.div_le_self _ _) (blen_lt V)
  unfold oddW
  generalize topV V d = t at *
  obtain ⟨b, hb'⟩ : ∃ b, blen (V / d) - 53 = b := ⟨_, rfl⟩
  rw [hb']
  have hb2 : b ≤ 267 := by omega
  have hne : t ≠ 0 := by omega
  have a0 := Nat.log2_self_le hne
  have a1 : t < 2 ^ (t.log2 + 1) := Nat.lt_log2_self
  have aL : t.log2 ≤ 52 := by
    have := (Nat.log2_lt hne).2 h1
    omega
  generalize t.log2 = L at *
  have := nearest_exact (neg := s) (k := 0) (p := (b : Int) - 151) a0 a1 aL (by omega) (by omega)
  rw [Nat.pow_zero, Nat.mul_one] at this
  refine ⟨t * 2 ^ (52 - L), (b : Int) - 151 + ((0 : Nat) : Int) + L - 52, 52 - L, this, rfl, by omega, ?_, ?_, by omega, by omega⟩
  · have := Nat.mul_le_mul_right (2 ^ (52 - L)) a0
    rw [← Nat.pow_add, show L + (52 - L) = 52 by omega] at this
    exact this
  · have := Nat.mul_lt_mul_of_pos_right a1 (Nat.two_pow_pos (52 - L))
    rw [← Nat.pow_add, show L + 1 + (52 - L) = 53 by omega] at this
    exact this
theorem told_odd (s : Bool) {V d : Nat} (hV : 0 < V) (hd : 0 < d) (hb : blen V ≤ 320) : toldD (some (Ieee.double.read (oddW s V d))) = Ieee.single.word s (exR V d) := by
  obtain ⟨m, p, L, e1, e2, e3, h0, h1, p0, p1⟩ := odd_wd s hV hd hb
  rw [e1, read_wd h0 h1 p0 p1, toldD_num, e2, rung_scale, e3]
  congr 1
  exact ex_top rfl
theorem odd_lt (s : Bool) {V d : Nat} (hV : 0 < V) (hd : 0 < d) (hb : blen V ≤ 320) : oddW s V d < 18446744073709551616 := by
  obtain ⟨m, p, L, e1, e2, e3, h0, h1, p0, p1⟩ := odd_wd s hV hd hb
  rw [e1]; exact wd_lt h1 p1
theorem xor_top {n : Nat} (h : n < 9223372036854775808) : n ^^^ 9223372036854775808 = 9223372036854775808 + n := by
  have e1 : (n ^^^ 9223372036854775808) / 2 ^ 63 = n / 2 ^ 63 ^^^ 1 := by rw [Nat.xor_div_two_pow]
  have e2 : (n ^^^ 9223372036854775808) % 2 ^ 63 = n % 2 ^ 63 := by rw [Nat.xor_mod_two_pow]; simp
  have e3 := Nat.div_add_mod (n ^^^ 9223372036854775808) (2 ^ 63)
  rw [e1, e2] at e3
  have e4 : n / 2 ^ 63 = 0 := by omega
  rw [e4] at e3
  have e5 : (0 ^^^ 1 : Nat) = 1 := rfl
  rw [e5] at e3
  omega
theorem top_bit : 2 ^ (FloatKind.f64.format.exponentBits + FloatKind.f64.format.fractionBits) = 9223372036854775808 := by decide
theorem word_f (r : Nat) : Ieee.double.word false r = r := rfl
theorem word_t (r : Nat) : Ieee.double.word true r = Ieee.double.signWeight + r := rfl
theorem neg_top (r : Nat) (h : r < 9223372036854775808) : Op.negFloat .f64 r = 9223372036854775808 + r := by
  unfold Op.negFloat
  rw [top_bit]
  exact xor_top h
theorem odd_neg (V d : Nat) : Op.negFloat .f64 (oddW false V d) = oddW true V d := by
  unfold oddW
  rw [nearest_rung, nearest_rung, word_f, word_t, double_sign]
  have hl := rungOf_le Ieee.double (topV V d) (((blen (V / d) - 53 : Nat) : Int) - 151)
  rw [double_inf] at hl
  exact neg_top _ (by omega)
set_option maxHeartbeats 400000 in
theorem snarrow_any (W : Nat) (w : World) : Calls Tryd.prog 63 #[.float .f64 W] w fun e w' => e = .returned (.int .u32 (toldD (some (Ieee.double.read W)) : Nat)) ∧ Q w w' := by
  have l1 := f64bits
  go_enter Tryd.func63, Tryd.ntmps63
  go_wp2_with fail
  refine (cnarrow_any W _).mono ?_
  rintro e w1 ⟨rfl, q1⟩
  go_wp2_with fail
  go_ret
  exact ⟨rfl, q1⟩
set_option maxHeartbeats 2000000 in
set_option maxRecDepth 100000 in
theorem divided_any (N : Nat → Nat) (z : Int) (hR : Rep N z) (h0 : z ≠ 0) (hz : 2 * z.natAbs < m64 ^ 5) (d : Nat) (hd : 0 < d) (hd' : d < 4294967296) (w : World) (hT : Tab w) : Calls Tryd.prog 75 #[numV N, .int .u64 (d : Int)] w fun e w' => e = .returned (.float .f64 (oddW (decide (z < 0)) z.natAbs d)) ∧ Q w w' := by
  have HN : Hid (∀ i, N i < m64) := hR.lt
  have HT : Hid (Tab w) := hT
  by_cases hn : z < 0
  · have h1 := hR.neg hn (by generalize m64 ^ 5 = G at *; omega)
    have e1 : decide (9223372036854775808 ≤ N 4) = true := decide_eq_true h1.2
    have HV : Hid (valW (negW N) 5 = z.natAbs) := by
      show valW (negW N) 5 = z.natAbs
      have := h1.1; omega
    have hV : Hid (0 < valW (negW N) 5) := by
      show 0 < valW (negW N) 5
      rw [HV.out]; omega
    have HW : Hid (oddW (decide (z < 0)) z.natAbs d = Op.negFloat .f64 (oddW false (valW (negW N) 5) d)) := by
      show oddW (decide (z < 0)) z.natAbs d = _
      rw [odd_neg, HV.out, decide_eq_true hn]
    have l1 : ∀ w : World, (Op.unary UnOp.neg (.float .f64 (oddW false (valW (negW N) 5) d))).run Tryd.prog w = .ok (.float .f64 (Op.negFloat .f64 (oddW false (valW (negW N) 5) d))) w := fun _ => rfl
    clear h1 hR hT hz h0 hn
    unfold numV
    go_enter Tryd.func75, Tryd.ntmps75
    go_wp2_with fail
    refine (negative_any N HN.out _).mono ?_
    rintro e w1 ⟨rfl, q1⟩
    rw [e1]
    have c0 := q1.cell (box_words w N 0 (by decide))
    have c1 := q1.cell (box_words w N 1 (by decide))
    have c2 := q1.cell (box_words w N 2 (by decide))
    have c3 := q1.cell (box_words w N 3 (by decide))
    have c4 := q1.cell (box_words w N 4 (by decide))
    have HQ1 : Hid (Q w w1) := ((Q.refl w).cells _ _).trans q1
    clear q1
    go_wp2_with fail
    refine (negated_any N HN.out _).mono ?_
    rintro e w2 ⟨rfl, q2⟩
    have HQ2 : Hid (Q w w2) := HQ1.out.trans q2
    clear q2 c0 c1 c2 c3 c4
    go_wp2_with fail
    refine (size_any (negW N) (neg_lt N) d hd hd' hV.out _ (HQ2.out.tab HT.out)).mono ?_
    rintro e w3 ⟨rfl, q3⟩
    have HQ3 : Hid (Q w w3) := HQ2.out.trans q3
    clear q3
    go_wp2_with fail
    go_ret
    exact ⟨by rw [HW.out]; rfl, HQ3.out⟩
  · have h1 := hR.pos (by omega) (by generalize m64 ^ 5 = G at *; omega)
    have e1 : decide (9223372036854775808 ≤ N 4) = false := decide_eq_false h1.2
    have HV : Hid (valW N 5 = z.natAbs) := by
      show valW N 5 = z.natAbs
      have := h1.1; omega
    have hV : Hid (0 < valW N 5) := by
      show 0 < valW N 5
      rw [HV.out]; omega
    rw [decide_eq_false hn]
    clear h1 hR hT hz h0 hn
    unfold numV
    go_enter Tryd.func75, Tryd.ntmps75
    go_wp2_with fail
    refine (negative_any N HN.out _).mono ?_
    rintro e w1 ⟨rfl, q1⟩
    rw [e1]
    have c0 := q1.cell (box_words w N 0 (by decide))
    have c1 := q1.cell (box_words w N 1 (by decide))
    have c2 := q1.cell (box_words w N 2 (by decide))
    have c3 := q1.cell (box_words w N 3 (by decide))
    have c4 := q1.cell (box_words w N 4 (by decide))
    have HQ1 : Hid (Q w w1) := ((Q.refl w).cells _ _).trans q1
    clear q1
    go_wp2_with fail
    refine (size_any N HN.out d hd hd' hV.out _ (HQ1.out.tab HT.out)).mono ?_
    rintro e w2 ⟨rfl, q2⟩
    have HQ2 : Hid (Q w w2) := HQ1.out.trans q2
    clear q2 c0 c1 c2 c3 c4
    go_wp2_with fail
    go_ret
    exact ⟨by rw [← HV.out]; rfl, HQ2.out⟩
end Go.Proofs.YtnjagokojdpgpabDoor
/- Regions that draw their order, whose last operation waits for all others: one walk in the order of the text, and then the last operation. -/
namespace Go.Proofs.YtnjagokojdpgpabDoor
open Go.RowKit
set_option linter.unusedVariables false

/-- The last operation waits for all others; each of these waits for earlier ones alone; none is guarded. -/
def lastB (pre : List Oper) (st : Oper) : Bool :=
  ((List.range pre.length).all fun k => match pre[k]? with
    | some o => o.guard.isNone && o.after.toList.all fun e => !(Region.binds .any e) || decide (e.on < k)
    | none => true) &&
  ((st.guard.isNone && st.after.toList.all fun e => !(Region.binds .any e) || decide (e.on < pre.length)) && (List.range pre.length).all fun k => st.after.toList.any fun e => Region.binds .any e && (e.on == k))
theorem lastB_pre {pre : List Oper} {st : Oper} (h : lastB pre st = true) {k : Nat} {o : Oper} (hk : pre[k]? = some o) : o.guard = none ∧ ∀ e ∈ o.after, Region.binds .any e = true → e.on < k := by
  unfold lastB at h
  rw [Bool.and_eq_true] at h
  have hlt : k < pre.length := (List.getElem?_eq_some_iff.1 hk).1
  have h1 := List.all_eq_true.1 h.1 k (List.mem_range.2 hlt)
  rw [hk] at h1
  simp only [Bool.and_eq_true] at h1
  refine ⟨by simpa using h1.1, fun e he hb => ?_⟩
  have h2 := List.all_eq_true.1 h1.2 e (by simpa using he)
  rw [hb] at h2
  simpa using h2
theorem lastB_st {pre : List Oper} {st : Oper} (h : lastB pre st = true) : st.guard = none ∧ (∀ k, k < pre.length → ∃ e ∈ st.after, Region.binds .any e = true ∧ e.on = k) ∧ ∀ e ∈ st.after, Region.binds .any e = true → e.on < pre.length := by
  unfold lastB at h
  simp only [Bool.and_eq_true] at h
  refine ⟨by simpa using h.2.1.1, fun k hk => ?_, fun e he hb => ?_⟩
  rotate_left
  · have h2 := List.all_eq_true.1 h.2.1.2 e (by simpa using he)
    rw [hb] at h2
    simpa using h2
  have h1 := List.all_eq_true.1 h.2.2 k (List.mem_range.2 hk)
  obtain ⟨e, he, h2⟩ := List.any_eq_true.1 h1
  rw [Bool.and_eq_true] at h2
  exact ⟨e, by simpa using he, h2.1, by simpa using h2.2⟩
theorem push_getD_lt (l : Array Bool) (d : Bool) {i : Nat} (h : i < l.size) : (l.push false).getD i d = l.getD i d := by
  rw [Array.getD_eq_getD_getElem?, Array.getD_eq_getD_getElem?, Array.getElem?_push_lt h, Array.getElem?_eq_getElem h]
theorem push_getD_eq (l : Array Bool) (d : Bool) : (l.push false).getD l.size d = false := by
  rw [Array.getD_eq_getD_getElem?, Array.getElem?_push_size]; rfl
theorem ops_lt {pre : List Oper} {st : Oper} {i : Nat} (h : i < pre.length) : (pre ++ [st]).toArray[i]? = pre.toArray[i]? := by
  simp [List.getElem?_append_left h]
theorem ready_lt {pre : List Oper} {st : Oper} (hB : lastB pre st = true) {listed : Array Bool} (hs : listed.size = pre.length) {i : Nat} (hi : i ∈ Region.ready .any (pre ++ [st]).toArray (listed.push false)) :
    (i < pre.length ∧ i ∈ Region.ready .any pre.toArray listed) ∨ (i = pre.length ∧ ∀ k, k < pre.length → listed.getD k false = true) := by
  obtain ⟨h1, o, ho, h2⟩ := mem_ready.1 hi
  rcases Nat.lt_trichotomy i pre.length with h | h | h
  · left
    refine ⟨h, mem_ready.2 ⟨?_, o, ?_, fun e he hb => ?_⟩⟩
    · rw [← push_getD_lt listed true (by omega)]; exact h1
    · rw [← ops_lt (st := st) h]; exact ho
    · have hk : pre[i]? = some o := by rw [ops_lt h] at ho; simpa using ho
      have := (lastB_pre hB hk).2 e he hb
      rw [← push_getD_lt listed false (by omega)]
      exact h2 e he hb
  · right
    refine ⟨h, fun k hk => ?_⟩
    have hst : o = st := by
      rw [h] at ho
      simp at ho
      exact ho.symm
    subst hst
    obtain ⟨e, he, hb, rfl⟩ := (lastB_st hB).2.1 k hk
    rw [← push_getD_lt listed false (by omega)]
    exact h2 e he hb
  · exfalso
    rw [List.getElem?_toArray, List.getElem?_eq_none (by simp; omega)] at ho
    cases ho
theorem ready_back {pre : List Oper} {st : Oper} (hB : lastB pre st = true) {listed : Array Bool} (hs : listed.size = pre.length) {i : Nat} (hi : i ∈ Region.ready .any pre.toArray listed) : i ∈ Region.ready .any (pre ++ [st]).toArray (listed.push false) := by
  obtain ⟨h1, o, ho, h2⟩ := mem_ready.1 hi
  have h : i < pre.length := by
    have := (List.getElem?_eq_some_iff.1 (show pre[i]? = some o by simpa using ho)).1
    exact this
  refine mem_ready.2 ⟨?_, o, ?_, fun e he hb => ?_⟩
  · rw [push_getD_lt listed true (by omega)]; exact h1
  · rw [ops_lt h]; exact ho
  · have hk : pre[i]? = some o := by simpa using ho
    have := (lastB_pre hB hk).2 e he hb
    rw [push_getD_lt listed false (by omega)]
    exact h2 e he hb
theorem ready_nil {pre : List Oper} {st : Oper} (hB : lastB pre st = true) {listed : Array Bool} (hs : listed.size = pre.length) (hr : Region.ready .any pre.toArray listed = []) : ∀ k, k < pre.length → listed.getD k false = true := by
  intro k
  induction k using Nat.strongRecOn with
  | ind k ih =>
    intro hk
    have hk' : k < listed.size := by omega
    cases hl : listed.getD k false with
    | true => rfl
    | false =>
      exfalso
      obtain ⟨o, ho⟩ : ∃ o, pre[k]? = some o := ⟨_, List.getElem?_eq_getElem hk⟩
      have : k ∈ Region.ready .any pre.toArray listed := by
        refine mem_ready.2 ⟨?_, o, by simpa using ho, fun e he hb => ?_⟩
        · rw [Array.getD_eq_getD_getElem?, Array.getElem?_eq_getElem hk'] at hl ⊢; exact hl
        · have := (lastB_pre hB ho).2 e he hb
          exact ih e.on this (by omega)
      rw [hr] at this
      cases this
theorem push_set (l : Array Bool) {i : Nat} (h : i < l.size) : (l.push false).setIfInBounds i true = (l.setIfInBounds i true).push false := by
  apply Array.ext_getElem?
  intro j
  rw [Array.getElem?_setIfInBounds, Array.getElem?_push, Array.getElem?_push, Array.getElem?_setIfInBounds]
  simp only [Array.size_push, Array.size_setIfInBounds]
  by_cases e : i = j
  · subst e
    have h3 : ¬ i = l.size := by omega
    have h4 : i < l.size + 1 := by omega
    simp [h, h3, h4]
  · simp [e]
theorem wpAny_done {P : Program} {ops : Array Oper} {Q' : Exit → Act → World → Prop} {listed : Array Bool} (hr : Region.ready .any ops listed = []) {a : Act} {w : World} (h : Q' .normal a w) : ∀ f, wpAny P .any ops Q' f listed a w
  | 0 => ⟨hr, h⟩
  | f + 1 => ⟨fun _ => h, fun i hi => by rw [hr] at hi; cases hi⟩
theorem wpAny_last {P : Program} {pre : List Oper} {st : Oper} {C : World → Prop} {Q : Act → Prop} {Q' : Exit → Act → World → Prop} (hB : lastB pre st = true)
    (hQ : ∀ a w, C w → Q a → st.wp P a w (fun a' w' => Q' .normal a' w') Q') : ∀ (fuel : Nat) (listed : Array Bool) (a : Act) (w : World), listed.size = pre.length → C w →
    wpAnyQ P .any pre.toArray C Q fuel listed a → wpAny P .any (pre ++ [st]).toArray Q' (fuel + 1) (listed.push false) a w := by
  have done : ∀ (fuel : Nat) (listed : Array Bool) (a : Act) (w : World), listed.size = pre.length → C w → (∀ k, k < pre.length → listed.getD k false = true) → Q a → wpAny P .any (pre ++ [st]).toArray Q' (fuel + 1) (listed.push false) a w := by
    intro fuel listed a w hs hC hall hq
    obtain ⟨g1, g2, g3⟩ := lastB_st hB
    have hrn : pre.length ∈ Region.ready .any (pre ++ [st]).toArray (listed.push false) := by
      refine mem_ready.2 ⟨?_, st, by simp, fun e he hb => ?_⟩
      · rw [← hs]; exact push_getD_eq _ _
      · have := g3 e he hb
        rw [push_getD_lt listed false (by omega)]
        exact hall _ this
    refine ⟨fun hr => (by rw [hr] at hrn; cases hrn), fun i hi => ?_⟩
    have hin : i = pre.length := by
      rcases ready_lt hB hs hi with ⟨h1, h2⟩ | ⟨h1, _⟩
      · exfalso
        obtain ⟨h3, _⟩ := mem_ready.1 h2
        have h4 := hall i h1
        rw [Array.getD_eq_getD_getElem?, Array.getElem?_eq_getElem (by omega)] at h3 h4
        simp at h3 h4
        rw [h4] at h3
        cases h3
      · exact h1
    subst hin
    unfold wpOp
    have hget : (pre ++ [st]).toArray[pre.length]? = some st := by simp
    rw [hget]
    simp only
    rw [if_pos (by unfold Region.wanted; rw [g1])]
    refine Or.inl (Oper.wp_mono (fun a' w' h => ?_) (hQ a w hC hq))
    refine wpAny_done ?_ h fuel
    cases hrr : Region.ready .any (pre ++ [st]).toArray ((listed.push false).setIfInBounds pre.length true) with
    | nil => rfl
    | cons j js =>
      exfalso
      have hj : j ∈ Region.ready .any (pre ++ [st]).toArray ((listed.push false).setIfInBounds pre.length true) := by rw [hrr]; exact List.mem_cons_self
      obtain ⟨h3, o, ho, _⟩ := mem_ready.1 hj
      have hj2 : j < (pre ++ [st]).length := by
        have := (List.getElem?_eq_some_iff.1 (show (pre ++ [st])[j]? = some o by simpa using ho)).1
        exact this
      rw [List.length_append, List.length_singleton] at hj2
      rw [Array.getD_eq_getD_getElem?, Array.getElem?_setIfInBounds] at h3
      by_cases e : pre.length = j
      · rw [if_pos e, if_pos (by rw [Array.size_push]; omega)] at h3
        cases h3
      · rw [if_neg e, Array.getElem?_push_lt (by omega)] at h3
        have h4 := hall j (by omega)
        rw [Array.getD_eq_getD_getElem?, Array.getElem?_eq_getElem (by omega)] at h4
        simp at h3 h4
        rw [h4] at h3
        cases h3
  intro fuel
  induction fuel with
  | zero =>
    intro listed a w hs hC h
    exact done 0 listed a w hs hC (ready_nil hB hs h.1) h.2
  | succ fuel ih =>
    intro listed a w hs hC h
    cases hr : Region.ready .any pre.toArray listed with
    | nil => exact done (fuel + 1) listed a w hs hC (ready_nil hB hs hr) (h.1 hr)
    | cons j js =>
      have hj : j ∈ Region.ready .any pre.toArray listed := by rw [hr]; exact List.mem_cons_self
      refine ⟨fun hn => (by have := ready_back (st := st) hB hs hj; rw [hn] at this; cases this), fun i hi => ?_⟩
      rcases ready_lt hB hs hi with ⟨h1, h2⟩ | ⟨_, h2⟩
      · have hq := h.2 i h2
        obtain ⟨o, ho⟩ : ∃ o, pre[i]? = some o := ⟨_, List.getElem?_eq_getElem h1⟩
        have hg := (lastB_pre hB ho).1
        unfold qOp at hq
        unfold wpOp
        rw [ops_lt h1]
        rw [show pre.toArray[i]? = some o by simpa using ho] at hq ⊢
        simp only at hq ⊢
        have hwt : ∀ y, Region.wanted o y = true := fun y => by unfold Region.wanted; rw [hg]
        rw [if_pos (hwt _)] at hq ⊢
        refine Or.inl (Oper.wp_of_quiet hC (fun a' w' hC' hk => ?_) hq)
        rw [push_set listed (by omega)]
        exact ih (listed.setIfInBounds i true) a' w' (by simpa using hs) hC' hk
      · exfalso
        obtain ⟨h3, o, ho, _⟩ := mem_ready.1 hj
        have hj2 : j < pre.length := (List.getElem?_eq_some_iff.1 (show pre[j]? = some o by simpa using ho)).1
        have h4 := h2 j hj2
        rw [Array.getD_eq_getD_getElem?, Array.getElem?_eq_getElem (by omega)] at h3 h4
        simp at h3 h4
        rw [h4] at h3
        cases h3
/-- The region's wp: the walk of all operations but the last, each quiet in the worlds that differ by new blocks; then the last one. -/
theorem wp_region_last {P : Program} {id : Nat} {R : Exit → Act → World → Prop} {a : Act} {w : World} {l : List Oper} (pre : List Oper) (st : Oper) (hl : l = pre ++ [st]) (hm : P.follows .mixedOrders = true) (hB : Region.lexB .any pre.toArray = true) (hL : lastB pre st = true)
    (h : wpQuiet P pre.toArray (fun w' => ∃ n : QW w, w' = n.x) (fun a' => ∀ (n : QW w) (K : Act → World → Prop), (∀ a'' w'', R .normal a'' w'' → K a'' w'') → st.wp P a' n.x K R) pre a) : (Code.region id l.toArray true).wp P R a w := by
  subst hl
  refine wp_region_any hm ?_
  have hq := wpAnyQ_lex (C := fun w' => ∃ n : QW w, w' = n.x) (md := .any) (by simp only [Region.lexB, Bool.and_eq_true] at hB; exact hB.1) pre 0 (Array.replicate pre.length false) a (by simp) (by simp only [Region.lexB, Bool.and_eq_true] at hB; simpa using hB.2) h
  have := wpAny_last (Q' := R) hL (fun a' w' hC hq => by obtain ⟨n, rfl⟩ := hC; exact hq n _ (fun _ _ h => h)) pre.length (Array.replicate pre.length false) a w.drew (by simp) ⟨⟨w.drew, (Q.refl w).drew⟩, rfl⟩ hq
  have e : (Array.replicate pre.length false).push false = Array.replicate (pre ++ [st]).toArray.size false := by
    rw [show (pre ++ [st]).toArray.size = pre.length + 1 by simp, Array.replicate_succ]
  rw [e] at this
  simpa using this
end Go.Proofs.YtnjagokojdpgpabDoor
